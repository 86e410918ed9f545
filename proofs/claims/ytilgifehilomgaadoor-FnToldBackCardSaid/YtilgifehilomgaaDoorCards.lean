/-
  DERIVED. GIVEN WITH THE SEED: THE CARDS: each row of YtilgifehilomgaaDoorRows.lean that lists a variable, with what it lists TIED to the program's text (the seventh form; the later family's looks); each row that meets fmt, with fmt's text TOLD by the authors' own Lean function (tested against real Go, not proved from fmt's source: count such statements apart). THE CARD IS WHAT COUNTS. Prove the row's statement (the work); the ties are given (YtilgifehilomgaaDoorTie.lean); close each card by the builder's one call (the guide's Derived/Test/ToyasCard.lean, 'card_holds'). Laid BY PROGRAM, IN A SANDBOX (cutbox-door.mjs). By AI agents, Wed Nov 11 2026. No macro, syntax, notation, axiom, sorry.
-/
import Derived.Test.YtilgifehilomgaaDoorRows
import GoSem.ClaimSeven
namespace Go.Proofs.YtilgifehilomgaaDoor
namespace Rows

/-- THE TIED CARD OF 'laws.FnToldBack'. -/
def fnToldBackCard : Claim7 := { stood := { row := fnToldBackRow, standIns := [], harness := (true, "d1de627a629829d72bd35f4b015ebe68d7745c4fdb053e4ad0c092e11bc84cd5"), looks := true }, kinds := [], alts := [], laidByText := true, laidKinds := [.data, .data, .data, .sentinel, .sentinel], laidTests := true, laidLooks := .later }
def FnToldBackCardSaid : Prop := Claim7.holds Tryd.pinned (.plain (OpenSpec.ofChange fnToldBackSpec)) fnToldBackCard

/-- THE SECOND FORM's CARD OF 'laws.FnToldBack'. -/
def fnToldBackUptoCard : Claim7 := { stood := { row := fnToldBackUptoRow, standIns := [], harness := (true, "d1de627a629829d72bd35f4b015ebe68d7745c4fdb053e4ad0c092e11bc84cd5"), looks := true }, kinds := [], alts := [], laidByText := true, laidKinds := [.data, .data, .data, .sentinel, .sentinel], laidTests := true, laidLooks := .later }
def FnToldBackUptoCardSaid : Prop := Claim7.holds Tryd.pinned (.plain (OpenSpec.upto fnToldBackSpec)) fnToldBackUptoCard
end Rows
end Go.Proofs.YtilgifehilomgaaDoor
