/-
  No cell of these rows narrows 'for every input' (looked for: loops, veiled, ifaces, maps, wideKeys, modest, calm, conditions, laid).
  DERIVED. THE GIVEN ROWS OF THIS SEAT. 5 by the template 'for every input the law returns true; each argument reads behind the call as it read before'; 0 by the template 'total and deterministic' (their statements: YtlebcdjobgibgaaTotals.lean).
  GIVEN WITH THE SEED: the statements are not yours to turn. If you find one false, say at which input.
  Laid BY PROGRAM, IN A SANDBOX (cutbox-rows.mjs): the forced cells as the released guide's own fill.sh prints them over the translation be38a0f20342e9b1… (all of the seat's roots in one cut). By AI agents, Wed Nov 11 2026. No macro, syntax, notation, axiom, sorry.
-/
import Derived.Test.YtlebcdjobgibgaaChecked
import GoSem.Claim
import GoSem.ClaimJoined
import GoSem.ClaimMapViews
import Derived.JoinedTies
import Derived.KernelRfl
namespace Go.Proofs.Ytlebcdjobgibgaa
/- THE CELL 'sum', in the pinned program and in every row, IS THE sha256 OF THE DUMP (.gsa) THAT YtlebcdjobgibgaaProg.lean LOADS. Nothing in Lean hashes anything: it is a label: what it is worth is what the hold of that sum in a sandbox is worth. -/
noncomputable def Try.pinned : Pinned := { name := "ytlebcdjobgibgaa", sum := "be38a0f20342e9b1814ad77dfa18b07934130de891b6e12f5f891f556d7111b1", checked := Try.checked }
namespace Rows
def none {H : Type} : Left H := { results := [], args := [] }

/-- 'laws.FnExactDegrees': WHATEVER THE INPUT: true; the input reads as it did. -/
def fnExactDegreesSpec : ChangeSpec := { name := "fnExactDegrees", fn := fun _ => fun
  | [d1, d2] => { results := [.lit (.bool true)], args := [d1, d2] }
  | _ => none }
def fnExactDegreesRow : OpenClaim := { program := "ytlebcdjobgibgaa", sum := "be38a0f20342e9b1814ad77dfa18b07934130de891b6e12f5f891f556d7111b1", func := "loop.example/g00051/laws.FnExactDegrees", spec := "fnExactDegrees", unfollowed := true, recurses := true, apart := false }
def FnExactDegreesSaid : Prop := fnExactDegreesRow.holds Try.pinned (OpenSpec.ofChange fnExactDegreesSpec)

/-- ITS FALSE NEIGHBOUR: 'it returns false'. Refute it at one input. -/
def fnExactDegreesWrong : ChangeSpec := { name := "fnExactDegrees", fn := fun _ => fun
  | [d1, d2] => { results := [.lit (.bool false)], args := [d1, d2] }
  | _ => none }
def FnExactDegreesWrongFalsely : Prop := fnExactDegreesRow.holds Try.pinned (OpenSpec.ofChange fnExactDegreesWrong)

/-- 'laws.FnExactSpell': WHATEVER THE INPUT: true; the input reads as it did. -/
def fnExactSpellSpec : ChangeSpec := { name := "fnExactSpell", fn := fun _ => fun
  | [d1, d2] => { results := [.lit (.bool true)], args := [d1, d2] }
  | _ => none }
def fnExactSpellRow : OpenClaim := { program := "ytlebcdjobgibgaa", sum := "be38a0f20342e9b1814ad77dfa18b07934130de891b6e12f5f891f556d7111b1", func := "loop.example/g00051/laws.FnExactSpell", spec := "fnExactSpell", apart := false }
def FnExactSpellSaid : Prop := fnExactSpellRow.holds Try.pinned (OpenSpec.ofChange fnExactSpellSpec)

/-- ITS FALSE NEIGHBOUR: 'it returns false'. Refute it at one input. -/
def fnExactSpellWrong : ChangeSpec := { name := "fnExactSpell", fn := fun _ => fun
  | [d1, d2] => { results := [.lit (.bool false)], args := [d1, d2] }
  | _ => none }
def FnExactSpellWrongFalsely : Prop := fnExactSpellRow.holds Try.pinned (OpenSpec.ofChange fnExactSpellWrong)

/-- 'laws.FnExactBreak': WHATEVER THE INPUT: true; the input reads as it did. -/
def fnExactBreakSpec : ChangeSpec := { name := "fnExactBreak", fn := fun _ => fun
  | [d] => { results := [.lit (.bool true)], args := [d] }
  | _ => none }
def fnExactBreakRow : OpenClaim := { program := "ytlebcdjobgibgaa", sum := "be38a0f20342e9b1814ad77dfa18b07934130de891b6e12f5f891f556d7111b1", func := "loop.example/g00051/laws.FnExactBreak", spec := "fnExactBreak", apart := false }
def FnExactBreakSaid : Prop := fnExactBreakRow.holds Try.pinned (OpenSpec.ofChange fnExactBreakSpec)

/-- ITS FALSE NEIGHBOUR: 'it returns false'. Refute it at one input. -/
def fnExactBreakWrong : ChangeSpec := { name := "fnExactBreak", fn := fun _ => fun
  | [d] => { results := [.lit (.bool false)], args := [d] }
  | _ => none }
def FnExactBreakWrongFalsely : Prop := fnExactBreakRow.holds Try.pinned (OpenSpec.ofChange fnExactBreakWrong)

/-- 'laws.FnExactHomogen': WHATEVER THE INPUT: true; the input reads as it did. -/
def fnExactHomogenSpec : ChangeSpec := { name := "fnExactHomogen", fn := fun _ => fun
  | [d] => { results := [.lit (.bool true)], args := [d] }
  | _ => none }
def fnExactHomogenRow : OpenClaim := { program := "ytlebcdjobgibgaa", sum := "be38a0f20342e9b1814ad77dfa18b07934130de891b6e12f5f891f556d7111b1", func := "loop.example/g00051/laws.FnExactHomogen", spec := "fnExactHomogen", apart := false }
def FnExactHomogenSaid : Prop := fnExactHomogenRow.holds Try.pinned (OpenSpec.ofChange fnExactHomogenSpec)

/-- ITS FALSE NEIGHBOUR: 'it returns false'. Refute it at one input. -/
def fnExactHomogenWrong : ChangeSpec := { name := "fnExactHomogen", fn := fun _ => fun
  | [d] => { results := [.lit (.bool false)], args := [d] }
  | _ => none }
def FnExactHomogenWrongFalsely : Prop := fnExactHomogenRow.holds Try.pinned (OpenSpec.ofChange fnExactHomogenWrong)

/-- 'laws.FnExactReturns': WHATEVER THE INPUT: true; the input reads as it did. -/
def fnExactReturnsSpec : ChangeSpec := { name := "fnExactReturns", fn := fun _ => fun
  | [d1, d2] => { results := [.lit (.bool true)], args := [d1, d2] }
  | _ => none }
def fnExactReturnsRow : OpenClaim := { program := "ytlebcdjobgibgaa", sum := "be38a0f20342e9b1814ad77dfa18b07934130de891b6e12f5f891f556d7111b1", func := "loop.example/g00051/laws.FnExactReturns", spec := "fnExactReturns", apart := false }
def FnExactReturnsSaid : Prop := fnExactReturnsRow.holds Try.pinned (OpenSpec.ofChange fnExactReturnsSpec)

/-- ITS FALSE NEIGHBOUR: 'it returns false'. Refute it at one input. -/
def fnExactReturnsWrong : ChangeSpec := { name := "fnExactReturns", fn := fun _ => fun
  | [d1, d2] => { results := [.lit (.bool false)], args := [d1, d2] }
  | _ => none }
def FnExactReturnsWrongFalsely : Prop := fnExactReturnsRow.holds Try.pinned (OpenSpec.ofChange fnExactReturnsWrong)

/- THE SECOND FORM. 'bulk': how many values and letters a reading holds, each counted each time it is reached (what is shared counts as often as it is met; a slice's spare places count too). A statement '..UptoSaid' is the law's where the arguments, and the package variables that the reading takes, are together of bulk at most 1048576: NARROWER than '..Said'. Prove '..Said' where nothing that the law and all that it calls make is longer than what came in: it says more and counts as full. Else prove '..UptoSaid'. A law counts once. -/
mutual
def uptoBulk {H : Type} : DataW H → Nat
  | .lit (.string bytes) => bytes.length + 1
  | .lit _ => 1
  | .nil => 1
  | .ptr d => uptoBulk d + 1
  | .slice elems spare => uptoBulkAll elems + uptoBulkAll spare + 1
  | .agg parts => uptoBulkAll parts + 1
  | .iface _ d => uptoBulk d + 1
  | .map entries => uptoBulkEntries entries + 1
  | .held _ => 1
def uptoBulkAll {H : Type} : List (DataW H) → Nat
  | [] => 0
  | d :: r => uptoBulk d + uptoBulkAll r
def uptoBulkEntries {H : Type} : List (Lit × DataW H) → Nat
  | [] => 0
  | x :: r => uptoBulkEntry x + uptoBulkEntries r
def uptoBulkEntry {H : Type} : Lit × DataW H → Nat
  | (.string bytes, d) => bytes.length + uptoBulk d + 1
  | (_, d) => uptoBulk d + 1
 end
def uptoSmall : (H : Type) → List (DataW H) → Bool := fun _ ds => decide (uptoBulkAll ds ≤ 1048576)
def OpenSpec.upto (s : _root_.Go.ChangeSpec) : _root_.Go.OpenSpec := { _root_.Go.OpenSpec.ofChange s with cond := some uptoSmall }

/-- 'laws.FnExactDegrees', WHERE WHAT IT READS IS OF BULK AT MOST 1048576: true; the input reads as it did. -/
def fnExactDegreesUptoRow : OpenClaim := { program := "ytlebcdjobgibgaa", sum := "be38a0f20342e9b1814ad77dfa18b07934130de891b6e12f5f891f556d7111b1", func := "loop.example/g00051/laws.FnExactDegrees", spec := "fnExactDegrees", unfollowed := true, recurses := true, apart := false, narrowed := true }
def FnExactDegreesUptoSaid : Prop := fnExactDegreesUptoRow.holds Try.pinned (OpenSpec.upto fnExactDegreesSpec)

/-- 'laws.FnExactSpell', WHERE WHAT IT READS IS OF BULK AT MOST 1048576: true; the input reads as it did. -/
def fnExactSpellUptoRow : OpenClaim := { program := "ytlebcdjobgibgaa", sum := "be38a0f20342e9b1814ad77dfa18b07934130de891b6e12f5f891f556d7111b1", func := "loop.example/g00051/laws.FnExactSpell", spec := "fnExactSpell", apart := false, narrowed := true }
def FnExactSpellUptoSaid : Prop := fnExactSpellUptoRow.holds Try.pinned (OpenSpec.upto fnExactSpellSpec)

/-- 'laws.FnExactBreak', WHERE WHAT IT READS IS OF BULK AT MOST 1048576: true; the input reads as it did. -/
def fnExactBreakUptoRow : OpenClaim := { program := "ytlebcdjobgibgaa", sum := "be38a0f20342e9b1814ad77dfa18b07934130de891b6e12f5f891f556d7111b1", func := "loop.example/g00051/laws.FnExactBreak", spec := "fnExactBreak", apart := false, narrowed := true }
def FnExactBreakUptoSaid : Prop := fnExactBreakUptoRow.holds Try.pinned (OpenSpec.upto fnExactBreakSpec)

/-- 'laws.FnExactHomogen', WHERE WHAT IT READS IS OF BULK AT MOST 1048576: true; the input reads as it did. -/
def fnExactHomogenUptoRow : OpenClaim := { program := "ytlebcdjobgibgaa", sum := "be38a0f20342e9b1814ad77dfa18b07934130de891b6e12f5f891f556d7111b1", func := "loop.example/g00051/laws.FnExactHomogen", spec := "fnExactHomogen", apart := false, narrowed := true }
def FnExactHomogenUptoSaid : Prop := fnExactHomogenUptoRow.holds Try.pinned (OpenSpec.upto fnExactHomogenSpec)

/-- 'laws.FnExactReturns', WHERE WHAT IT READS IS OF BULK AT MOST 1048576: true; the input reads as it did. -/
def fnExactReturnsUptoRow : OpenClaim := { program := "ytlebcdjobgibgaa", sum := "be38a0f20342e9b1814ad77dfa18b07934130de891b6e12f5f891f556d7111b1", func := "loop.example/g00051/laws.FnExactReturns", spec := "fnExactReturns", apart := false, narrowed := true }
def FnExactReturnsUptoSaid : Prop := fnExactReturnsUptoRow.holds Try.pinned (OpenSpec.upto fnExactReturnsSpec)

end Rows
end Go.Proofs.Ytlebcdjobgibgaa
