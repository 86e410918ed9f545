/-
  DERIVED. GIVEN WITH THE SEED: THE CARDS: each row of YtncjfglljkiblaaDoorRows.lean that lists a variable, with what it lists TIED to the program's text (the seventh form; the later family's looks); each row that meets fmt, with fmt's text TOLD by the authors' own Lean function (tested against real Go, not proved from fmt's source: count such statements apart). THE CARD IS WHAT COUNTS. Prove the row's statement (the work); the ties are given (YtncjfglljkiblaaDoorTie.lean); close each card by the builder's one call (the guide's Derived/Test/ToyasCard.lean, 'card_holds'). Laid BY PROGRAM, IN A SANDBOX (cutbox-door.mjs). By AI agents, Wed Nov 11 2026. No macro, syntax, notation, axiom, sorry.
-/
import Derived.Test.YtncjfglljkiblaaDoorRows
import GoSem.ClaimSeven
namespace Go.Proofs.YtncjfglljkiblaaDoor
namespace Rows

/-- THE TIED CARD OF 'laws.FnExactReadSoil'. -/
def fnExactReadSoilCard : Claim7 := { stood := { row := fnExactReadSoilRow, standIns := [], harness := (true, "de0b80d3f7d6044f51d4b07a299e35e64d8feed82ca5c59fc73c9a18fe9ef9e4"), looks := true }, kinds := [], alts := [], laidByText := true, laidKinds := [.data, .data, .data, .data, .sentinel, .sentinel, .pinned], laidTests := true, laidLooks := .later }
def FnExactReadSoilCardSaid : Prop := Claim7.holds Tryd.pinned (.plain (OpenSpec.ofChange fnExactReadSoilSpec)) fnExactReadSoilCard

/-- THE SECOND FORM's CARD OF 'laws.FnExactReadSoil'. -/
def fnExactReadSoilUptoCard : Claim7 := { stood := { row := fnExactReadSoilUptoRow, standIns := [], harness := (true, "de0b80d3f7d6044f51d4b07a299e35e64d8feed82ca5c59fc73c9a18fe9ef9e4"), looks := true }, kinds := [], alts := [], laidByText := true, laidKinds := [.data, .data, .data, .data, .sentinel, .sentinel, .pinned], laidTests := true, laidLooks := .later }
def FnExactReadSoilUptoCardSaid : Prop := Claim7.holds Tryd.pinned (.plain (OpenSpec.upto fnExactReadSoilSpec)) fnExactReadSoilUptoCard
end Rows
end Go.Proofs.YtncjfglljkiblaaDoor
