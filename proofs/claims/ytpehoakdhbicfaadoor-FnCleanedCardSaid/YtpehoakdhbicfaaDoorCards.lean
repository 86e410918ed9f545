/-
  DERIVED. GIVEN WITH THE SEED: THE CARDS: each row of YtpehoakdhbicfaaDoorRows.lean that lists a variable, with what it lists TIED to the program's text (the seventh form; the later family's looks); each row that meets fmt, with fmt's text TOLD by the authors' own Lean function (tested against real Go, not proved from fmt's source: count such statements apart). THE CARD IS WHAT COUNTS. Prove the row's statement (the work); the ties are given (YtpehoakdhbicfaaDoorTie.lean); close each card by the builder's one call (the guide's Derived/Test/ToyasCard.lean, 'card_holds'). Laid BY PROGRAM, IN A SANDBOX (cutbox-door.mjs). By AI agents, Wed Nov 11 2026. No macro, syntax, notation, axiom, sorry.
-/
import Derived.Test.YtpehoakdhbicfaaDoorRows
import GoSem.ClaimSeven
namespace Go.Proofs.YtpehoakdhbicfaaDoor
namespace Rows

/-- THE TIED CARD OF 'laws.FnCleaned'. -/
def fnCleanedCard : Claim7 := { stood := { row := fnCleanedRow, standIns := [], harness := (true, "8076ba2b7b7dfcd1231ba18285a58324fa86805be92171aa8dc047f10a4520c9"), looks := false }, kinds := [], alts := [], laidByText := true, laidKinds := [.data, .pinned], laidTests := true, laidLooks := .later }
def FnCleanedCardSaid : Prop := Claim7.holds Tryd.pinned (.plain (OpenSpec.ofChange fnCleanedSpec)) fnCleanedCard

/-- THE SECOND FORM's CARD OF 'laws.FnCleaned'. -/
def fnCleanedUptoCard : Claim7 := { stood := { row := fnCleanedUptoRow, standIns := [], harness := (true, "8076ba2b7b7dfcd1231ba18285a58324fa86805be92171aa8dc047f10a4520c9"), looks := false }, kinds := [], alts := [], laidByText := true, laidKinds := [.data, .pinned], laidTests := true, laidLooks := .later }
def FnCleanedUptoCardSaid : Prop := Claim7.holds Tryd.pinned (.plain (OpenSpec.upto fnCleanedSpec)) fnCleanedUptoCard
end Rows
end Go.Proofs.YtpehoakdhbicfaaDoor
