/-
  DERIVED. GIVEN WITH THE SEED: THE CARDS: each row of YtepofpmdkphhdaaDoorRows.lean that lists a variable, with what it lists TIED to the program's text (the seventh form; the later family's looks); each row that meets fmt, with fmt's text TOLD by the authors' own Lean function (tested against real Go, not proved from fmt's source: count such statements apart). THE CARD IS WHAT COUNTS. Prove the row's statement (the work); the ties are given (YtepofpmdkphhdaaDoorTie.lean); close each card by the builder's one call (the guide's Derived/Test/ToyasCard.lean, 'card_holds'). Laid BY PROGRAM, IN A SANDBOX (cutbox-door.mjs). By AI agents, Wed Nov 11 2026. No macro, syntax, notation, axiom, sorry.
-/
import Derived.Test.YtepofpmdkphhdaaDoorRows
import GoSem.ClaimSeven
namespace Go.Proofs.YtepofpmdkphhdaaDoor
namespace Rows

/-- THE TIED CARD OF 'laws.FnHeadings'. -/
def fnHeadingsCard : Claim7 := { stood := { row := fnHeadingsRow, standIns := [], harness := (true, "1a46f61cef9f1b4b0946e0e54661d642c0c6074681f7f033c72bdaceae8e63c6"), looks := false }, kinds := [], alts := [], laidByText := true, laidKinds := [.data, .data, .data, .data, .pinned], laidTests := true, laidLooks := .later }
def FnHeadingsCardSaid : Prop := Claim7.holds Tryd.pinned (.plain (OpenSpec.ofChange fnHeadingsSpec)) fnHeadingsCard

/-- THE SECOND FORM's CARD OF 'laws.FnHeadings'. -/
def fnHeadingsUptoCard : Claim7 := { stood := { row := fnHeadingsUptoRow, standIns := [], harness := (true, "1a46f61cef9f1b4b0946e0e54661d642c0c6074681f7f033c72bdaceae8e63c6"), looks := false }, kinds := [], alts := [], laidByText := true, laidKinds := [.data, .data, .data, .data, .pinned], laidTests := true, laidLooks := .later }
def FnHeadingsUptoCardSaid : Prop := Claim7.holds Tryd.pinned (.plain (OpenSpec.upto fnHeadingsSpec)) fnHeadingsUptoCard
end Rows
end Go.Proofs.YtepofpmdkphhdaaDoor
