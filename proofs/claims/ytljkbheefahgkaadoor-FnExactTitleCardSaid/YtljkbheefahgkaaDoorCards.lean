/-
  DERIVED. GIVEN WITH THE SEED: THE CARDS: each row of YtljkbheefahgkaaDoorRows.lean that lists a variable, with what it lists TIED to the program's text (the seventh form; the later family's looks); each row that meets fmt, with fmt's text TOLD by the authors' own Lean function (tested against real Go, not proved from fmt's source: count such statements apart). THE CARD IS WHAT COUNTS. Prove the row's statement (the work); the ties are given (YtljkbheefahgkaaDoorTie.lean); close each card by the builder's one call (the guide's Derived/Test/ToyasCard.lean, 'card_holds'). Laid BY PROGRAM, IN A SANDBOX (cutbox-door.mjs). By AI agents, Wed Nov 11 2026. No macro, syntax, notation, axiom, sorry.
-/
import Derived.Test.YtljkbheefahgkaaDoorRows
import GoSem.ClaimSeven
namespace Go.Proofs.YtljkbheefahgkaaDoor
namespace Rows

/-- THE TIED CARD OF 'laws.FnExactTitle'. -/
def fnExactTitleCard : Claim7 := { stood := { row := fnExactTitleRow, standIns := [], harness := (true, "21b56769be4afc0610290eda3a8f985c5167705956c44a2b3e58da84918aed5e"), looks := false }, kinds := [], alts := [], laidByText := true, laidKinds := [.data, .pinned], laidTests := true, laidLooks := .later }
def FnExactTitleCardSaid : Prop := Claim7.holds Tryd.pinned (.plain (OpenSpec.ofChange fnExactTitleSpec)) fnExactTitleCard

/-- THE SECOND FORM's CARD OF 'laws.FnExactTitle'. -/
def fnExactTitleUptoCard : Claim7 := { stood := { row := fnExactTitleUptoRow, standIns := [], harness := (true, "21b56769be4afc0610290eda3a8f985c5167705956c44a2b3e58da84918aed5e"), looks := false }, kinds := [], alts := [], laidByText := true, laidKinds := [.data, .pinned], laidTests := true, laidLooks := .later }
def FnExactTitleUptoCardSaid : Prop := Claim7.holds Tryd.pinned (.plain (OpenSpec.upto fnExactTitleSpec)) fnExactTitleUptoCard
end Rows
end Go.Proofs.YtljkbheefahgkaaDoor
