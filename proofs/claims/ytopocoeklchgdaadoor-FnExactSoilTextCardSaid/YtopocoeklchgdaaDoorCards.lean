/-
  DERIVED. GIVEN WITH THE SEED: THE CARDS: each row of YtopocoeklchgdaaDoorRows.lean that lists a variable, with what it lists TIED to the program's text (the seventh form; the later family's looks); each row that meets fmt, with fmt's text TOLD by the authors' own Lean function (tested against real Go, not proved from fmt's source: count such statements apart). THE CARD IS WHAT COUNTS. Prove the row's statement (the work); the ties are given (YtopocoeklchgdaaDoorTie.lean); close each card by the builder's one call (the guide's Derived/Test/ToyasCard.lean, 'card_holds'). Laid BY PROGRAM, IN A SANDBOX (cutbox-door.mjs). By AI agents, Wed Nov 11 2026. No macro, syntax, notation, axiom, sorry.
-/
import Derived.Test.YtopocoeklchgdaaDoorRows
import GoSem.ClaimSeven
namespace Go.Proofs.YtopocoeklchgdaaDoor
namespace Rows

/-- THE TIED CARD OF 'laws.FnExactSoilText'. -/
def fnExactSoilTextCard : Claim7 := { stood := { row := fnExactSoilTextRow, standIns := [], harness := (true, "00cf82a2d4ccfeaf7722de736286358ec1a0a6dfc56419c2a03a36223f1ac765"), looks := true }, kinds := [], alts := [], laidByText := true, laidKinds := [.data, .data, .data], laidTests := true, laidLooks := .later }
def FnExactSoilTextCardSaid : Prop := Claim7.holds Tryd.pinned (.plain (OpenSpec.ofChange fnExactSoilTextSpec)) fnExactSoilTextCard

/-- THE TIED CARD OF 'laws.FnExactReadSoil'. -/
def fnExactReadSoilCard : Claim7 := { stood := { row := fnExactReadSoilRow, standIns := [], harness := (true, "00cf82a2d4ccfeaf7722de736286358ec1a0a6dfc56419c2a03a36223f1ac765"), looks := true }, kinds := [], alts := [], laidByText := true, laidKinds := [.data, .data, .data, .data, .sentinel, .sentinel, .pinned], laidTests := true, laidLooks := .later }
def FnExactReadSoilCardSaid : Prop := Claim7.holds Tryd.pinned (.plain (OpenSpec.ofChange fnExactReadSoilSpec)) fnExactReadSoilCard

/-- THE SECOND FORM's CARD OF 'laws.FnExactSoilText'. -/
def fnExactSoilTextUptoCard : Claim7 := { stood := { row := fnExactSoilTextUptoRow, standIns := [], harness := (true, "00cf82a2d4ccfeaf7722de736286358ec1a0a6dfc56419c2a03a36223f1ac765"), looks := true }, kinds := [], alts := [], laidByText := true, laidKinds := [.data, .data, .data], laidTests := true, laidLooks := .later }
def FnExactSoilTextUptoCardSaid : Prop := Claim7.holds Tryd.pinned (.plain (OpenSpec.upto fnExactSoilTextSpec)) fnExactSoilTextUptoCard

/-- THE SECOND FORM's CARD OF 'laws.FnExactReadSoil'. -/
def fnExactReadSoilUptoCard : Claim7 := { stood := { row := fnExactReadSoilUptoRow, standIns := [], harness := (true, "00cf82a2d4ccfeaf7722de736286358ec1a0a6dfc56419c2a03a36223f1ac765"), looks := true }, kinds := [], alts := [], laidByText := true, laidKinds := [.data, .data, .data, .data, .sentinel, .sentinel, .pinned], laidTests := true, laidLooks := .later }
def FnExactReadSoilUptoCardSaid : Prop := Claim7.holds Tryd.pinned (.plain (OpenSpec.upto fnExactReadSoilSpec)) fnExactReadSoilUptoCard
end Rows
end Go.Proofs.YtopocoeklchgdaaDoor
