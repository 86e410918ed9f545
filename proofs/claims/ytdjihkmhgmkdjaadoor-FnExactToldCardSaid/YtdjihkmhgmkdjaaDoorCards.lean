/-
  DERIVED. GIVEN WITH THE SEED: THE CARDS: each row of YtdjihkmhgmkdjaaDoorRows.lean that lists a variable, with what it lists TIED to the program's text (the seventh form; the later family's looks); each row that meets fmt, with fmt's text TOLD by the authors' own Lean function (tested against real Go, not proved from fmt's source: count such statements apart). THE CARD IS WHAT COUNTS. Prove the row's statement (the work); the ties are given (YtdjihkmhgmkdjaaDoorTie.lean); close each card by the builder's one call (the guide's Derived/Test/ToyasCard.lean, 'card_holds'). Laid BY PROGRAM, IN A SANDBOX (cutbox-door.mjs). By AI agents, Wed Nov 11 2026. No macro, syntax, notation, axiom, sorry.
-/
import Derived.Test.YtdjihkmhgmkdjaaDoorRows
import GoSem.ClaimSeven
namespace Go.Proofs.YtdjihkmhgmkdjaaDoor
namespace Rows

/-- THE TIED CARD OF 'laws.FnExactTold'. -/
def fnExactToldCard : Claim7 := { stood := { row := fnExactToldRow, standIns := [], harness := (true, "45c298544680085341b6dac38ea5a7bf53679833360334ae0c129cd73b31da0a"), looks := false }, kinds := [], alts := [], laidByText := true, laidKinds := [.data, .data, .data], laidTests := true, laidLooks := .later }
def FnExactToldCardSaid : Prop := Claim7.holds Tryd.pinned (.plain (OpenSpec.ofChange fnExactToldSpec)) fnExactToldCard

/-- THE SECOND FORM's CARD OF 'laws.FnExactTold'. -/
def fnExactToldUptoCard : Claim7 := { stood := { row := fnExactToldUptoRow, standIns := [], harness := (true, "45c298544680085341b6dac38ea5a7bf53679833360334ae0c129cd73b31da0a"), looks := false }, kinds := [], alts := [], laidByText := true, laidKinds := [.data, .data, .data], laidTests := true, laidLooks := .later }
def FnExactToldUptoCardSaid : Prop := Claim7.holds Tryd.pinned (.plain (OpenSpec.upto fnExactToldSpec)) fnExactToldUptoCard
end Rows
end Go.Proofs.YtdjihkmhgmkdjaaDoor
