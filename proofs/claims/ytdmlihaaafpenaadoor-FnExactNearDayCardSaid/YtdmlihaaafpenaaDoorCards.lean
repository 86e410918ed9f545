/-
  DERIVED. GIVEN WITH THE SEED: THE CARDS: each row of YtdmlihaaafpenaaDoorRows.lean that lists a variable, with what it lists TIED to the program's text (the seventh form; the later family's looks); each row that meets fmt, with fmt's text TOLD by the authors' own Lean function (tested against real Go, not proved from fmt's source: count such statements apart). THE CARD IS WHAT COUNTS. Prove the row's statement (the work); the ties are given (YtdmlihaaafpenaaDoorTie.lean); close each card by the builder's one call (the guide's Derived/Test/ToyasCard.lean, 'card_holds'). Laid BY PROGRAM, IN A SANDBOX (cutbox-door.mjs). By AI agents, Wed Nov 11 2026. No macro, syntax, notation, axiom, sorry.
-/
import Derived.Test.YtdmlihaaafpenaaDoorRows
import GoSem.ClaimSeven
namespace Go.Proofs.YtdmlihaaafpenaaDoor
namespace Rows

/-- THE TIED CARD OF 'laws.FnExactTimeOf'. -/
def fnExactTimeOfCard : Claim7 := { stood := { row := fnExactTimeOfRow, standIns := [], harness := (true, "f3a8298ed135e6ada620223bf455d11a858d146e3f4fd5a19e8a1027316ae617"), looks := false }, kinds := [], alts := [], laidByText := true, laidKinds := [.data], laidTests := true, laidLooks := .later }
def FnExactTimeOfCardSaid : Prop := Claim7.holds Tryd.pinned (.plain (OpenSpec.ofChange fnExactTimeOfSpec)) fnExactTimeOfCard

/-- THE TIED CARD OF 'laws.FnExactDateOf'. -/
def fnExactDateOfCard : Claim7 := { stood := { row := fnExactDateOfRow, standIns := [], harness := (true, "f3a8298ed135e6ada620223bf455d11a858d146e3f4fd5a19e8a1027316ae617"), looks := false }, kinds := [], alts := [], laidByText := true, laidKinds := [.data], laidTests := true, laidLooks := .later }
def FnExactDateOfCardSaid : Prop := Claim7.holds Tryd.pinned (.plain (OpenSpec.ofChange fnExactDateOfSpec)) fnExactDateOfCard

/-- THE TIED CARD OF 'laws.FnExactNearDay'. -/
def fnExactNearDayCard : Claim7 := { stood := { row := fnExactNearDayRow, standIns := [], harness := (true, "f3a8298ed135e6ada620223bf455d11a858d146e3f4fd5a19e8a1027316ae617"), looks := false }, kinds := [], alts := [], laidByText := true, laidKinds := [.data], laidTests := true, laidLooks := .later }
def FnExactNearDayCardSaid : Prop := Claim7.holds Tryd.pinned (.plain (OpenSpec.ofChange fnExactNearDaySpec)) fnExactNearDayCard

/-- THE SECOND FORM's CARD OF 'laws.FnExactTimeOf'. -/
def fnExactTimeOfUptoCard : Claim7 := { stood := { row := fnExactTimeOfUptoRow, standIns := [], harness := (true, "f3a8298ed135e6ada620223bf455d11a858d146e3f4fd5a19e8a1027316ae617"), looks := false }, kinds := [], alts := [], laidByText := true, laidKinds := [.data], laidTests := true, laidLooks := .later }
def FnExactTimeOfUptoCardSaid : Prop := Claim7.holds Tryd.pinned (.plain (OpenSpec.upto fnExactTimeOfSpec)) fnExactTimeOfUptoCard

/-- THE SECOND FORM's CARD OF 'laws.FnExactDateOf'. -/
def fnExactDateOfUptoCard : Claim7 := { stood := { row := fnExactDateOfUptoRow, standIns := [], harness := (true, "f3a8298ed135e6ada620223bf455d11a858d146e3f4fd5a19e8a1027316ae617"), looks := false }, kinds := [], alts := [], laidByText := true, laidKinds := [.data], laidTests := true, laidLooks := .later }
def FnExactDateOfUptoCardSaid : Prop := Claim7.holds Tryd.pinned (.plain (OpenSpec.upto fnExactDateOfSpec)) fnExactDateOfUptoCard

/-- THE SECOND FORM's CARD OF 'laws.FnExactNearDay'. -/
def fnExactNearDayUptoCard : Claim7 := { stood := { row := fnExactNearDayUptoRow, standIns := [], harness := (true, "f3a8298ed135e6ada620223bf455d11a858d146e3f4fd5a19e8a1027316ae617"), looks := false }, kinds := [], alts := [], laidByText := true, laidKinds := [.data], laidTests := true, laidLooks := .later }
def FnExactNearDayUptoCardSaid : Prop := Claim7.holds Tryd.pinned (.plain (OpenSpec.upto fnExactNearDaySpec)) fnExactNearDayUptoCard
end Rows
end Go.Proofs.YtdmlihaaafpenaaDoor
