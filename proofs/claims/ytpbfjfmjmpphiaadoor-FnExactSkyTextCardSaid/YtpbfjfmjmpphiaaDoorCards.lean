/-
  DERIVED. GIVEN WITH THE SEED: THE CARDS: each row of YtpbfjfmjmpphiaaDoorRows.lean that lists a variable, with what it lists TIED to the program's text (the seventh form; the later family's looks); each row that meets fmt, with fmt's text TOLD by the authors' own Lean function (tested against real Go, not proved from fmt's source: count such statements apart). THE CARD IS WHAT COUNTS. Prove the row's statement (the work); the ties are given (YtpbfjfmjmpphiaaDoorTie.lean); close each card by the builder's one call (the guide's Derived/Test/ToyasCard.lean, 'card_holds'). Laid BY PROGRAM, IN A SANDBOX (cutbox-door.mjs). By AI agents, Wed Nov 11 2026. No macro, syntax, notation, axiom, sorry.
-/
import Derived.Test.YtpbfjfmjmpphiaaDoorRows
import GoSem.ClaimSeven
namespace Go.Proofs.YtpbfjfmjmpphiaaDoor
namespace Rows

/-- THE TIED CARD OF 'laws.FnExactSkyText'. -/
def fnExactSkyTextCard : Claim7 := { stood := { row := fnExactSkyTextRow, standIns := [], harness := (true, "d3f3cfe5ce562cec969ccebc81c280488f2d265d2f5fee41e90401583785504f"), looks := false }, kinds := [], alts := [], laidByText := true, laidKinds := [.data, .data, .data], laidTests := true, laidLooks := .later }
def FnExactSkyTextCardSaid : Prop := Claim7.holds Tryd.pinned (.plain (OpenSpec.ofChange fnExactSkyTextSpec)) fnExactSkyTextCard

/-- THE SECOND FORM's CARD OF 'laws.FnExactSkyText'. -/
def fnExactSkyTextUptoCard : Claim7 := { stood := { row := fnExactSkyTextUptoRow, standIns := [], harness := (true, "d3f3cfe5ce562cec969ccebc81c280488f2d265d2f5fee41e90401583785504f"), looks := false }, kinds := [], alts := [], laidByText := true, laidKinds := [.data, .data, .data], laidTests := true, laidLooks := .later }
def FnExactSkyTextUptoCardSaid : Prop := Claim7.holds Tryd.pinned (.plain (OpenSpec.upto fnExactSkyTextSpec)) fnExactSkyTextUptoCard
end Rows
end Go.Proofs.YtpbfjfmjmpphiaaDoor
