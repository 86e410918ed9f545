/-
  DERIVED. GIVEN WITH THE SEED: THE CARDS: each row of YtekkjecngdalgaaDoorRows.lean that lists a variable, with what it lists TIED to the program's text (the seventh form; the later family's looks); each row that meets fmt, with fmt's text TOLD by the authors' own Lean function (tested against real Go, not proved from fmt's source: count such statements apart). THE CARD IS WHAT COUNTS. Prove the row's statement (the work); the ties are given (YtekkjecngdalgaaDoorTie.lean); close each card by the builder's one call (the guide's Derived/Test/ToyasCard.lean, 'card_holds'). Laid BY PROGRAM, IN A SANDBOX (cutbox-door.mjs). By AI agents, Wed Nov 11 2026. No macro, syntax, notation, axiom, sorry.
-/
import Derived.Test.YtekkjecngdalgaaDoorRows
import GoSem.ClaimSeven
namespace Go.Proofs.YtekkjecngdalgaaDoor
namespace Rows

/-- THE TIED CARD OF 'laws.FnExactHeadingText'. -/
def fnExactHeadingTextCard : Claim7 := { stood := { row := fnExactHeadingTextRow, standIns := [], harness := (true, "7f018923147c55be0480c8c527fd02f77130394f1805255c6f06605483fb6732"), looks := false }, kinds := [], alts := [], laidByText := true, laidKinds := [.data, .data, .data], laidTests := true, laidLooks := .later }
def FnExactHeadingTextCardSaid : Prop := Claim7.holds Tryd.pinned (.plain (OpenSpec.ofChange fnExactHeadingTextSpec)) fnExactHeadingTextCard

/-- THE TIED CARD OF 'laws.FnExactReadHeading'. -/
def fnExactReadHeadingCard : Claim7 := { stood := { row := fnExactReadHeadingRow, standIns := [], harness := (true, "7f018923147c55be0480c8c527fd02f77130394f1805255c6f06605483fb6732"), looks := false }, kinds := [], alts := [], laidByText := true, laidKinds := [.data, .pinned], laidTests := true, laidLooks := .later }
def FnExactReadHeadingCardSaid : Prop := Claim7.holds Tryd.pinned (.plain (OpenSpec.ofChange fnExactReadHeadingSpec)) fnExactReadHeadingCard

/-- THE SECOND FORM's CARD OF 'laws.FnExactHeadingText'. -/
def fnExactHeadingTextUptoCard : Claim7 := { stood := { row := fnExactHeadingTextUptoRow, standIns := [], harness := (true, "7f018923147c55be0480c8c527fd02f77130394f1805255c6f06605483fb6732"), looks := false }, kinds := [], alts := [], laidByText := true, laidKinds := [.data, .data, .data], laidTests := true, laidLooks := .later }
def FnExactHeadingTextUptoCardSaid : Prop := Claim7.holds Tryd.pinned (.plain (OpenSpec.upto fnExactHeadingTextSpec)) fnExactHeadingTextUptoCard

/-- THE SECOND FORM's CARD OF 'laws.FnExactReadHeading'. -/
def fnExactReadHeadingUptoCard : Claim7 := { stood := { row := fnExactReadHeadingUptoRow, standIns := [], harness := (true, "7f018923147c55be0480c8c527fd02f77130394f1805255c6f06605483fb6732"), looks := false }, kinds := [], alts := [], laidByText := true, laidKinds := [.data, .pinned], laidTests := true, laidLooks := .later }
def FnExactReadHeadingUptoCardSaid : Prop := Claim7.holds Tryd.pinned (.plain (OpenSpec.upto fnExactReadHeadingSpec)) fnExactReadHeadingUptoCard
end Rows
end Go.Proofs.YtekkjecngdalgaaDoor
