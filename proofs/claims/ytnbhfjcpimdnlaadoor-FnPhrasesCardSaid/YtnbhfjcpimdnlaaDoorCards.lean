/-
  DERIVED. GIVEN WITH THE SEED: THE CARDS: each row of YtnbhfjcpimdnlaaDoorRows.lean that lists a variable, with what it lists TIED to the program's text (the seventh form; the later family's looks); each row that meets fmt, with fmt's text TOLD by the authors' own Lean function (tested against real Go, not proved from fmt's source: count such statements apart). THE CARD IS WHAT COUNTS. Prove the row's statement (the work); the ties are given (YtnbhfjcpimdnlaaDoorTie.lean); close each card by the builder's one call (the guide's Derived/Test/ToyasCard.lean, 'card_holds'). Laid BY PROGRAM, IN A SANDBOX (cutbox-door.mjs). By AI agents, Wed Nov 11 2026. No macro, syntax, notation, axiom, sorry.
-/
import Derived.Test.YtnbhfjcpimdnlaaDoorRows
import GoSem.ClaimSeven
namespace Go.Proofs.YtnbhfjcpimdnlaaDoor
namespace Rows

/-- THE TIED CARD OF 'laws.FnExactReadPhrase'. -/
def fnExactReadPhraseCard : Claim7 := { stood := { row := fnExactReadPhraseRow, standIns := [], harness := (true, "32fcc5480ad73d84b53bf51bc49cb151906d8d01f5d6fcd43160d22851182455"), looks := false }, kinds := [], alts := [], laidByText := true, laidKinds := [.data, .data, .data], laidTests := true, laidLooks := .later }
def FnExactReadPhraseCardSaid : Prop := Claim7.holds Tryd.pinned (.plain (OpenSpec.ofChange fnExactReadPhraseSpec)) fnExactReadPhraseCard

/-- THE TIED CARD OF 'laws.FnPhrases'. -/
def fnPhrasesCard : Claim7 := { stood := { row := fnPhrasesRow, standIns := [], harness := (true, "32fcc5480ad73d84b53bf51bc49cb151906d8d01f5d6fcd43160d22851182455"), looks := false }, kinds := [], alts := [], laidByText := true, laidKinds := [.data, .data, .data], laidTests := true, laidLooks := .later }
def FnPhrasesCardSaid : Prop := Claim7.holds Tryd.pinned (.plain (OpenSpec.ofChange fnPhrasesSpec)) fnPhrasesCard

/-- THE SECOND FORM's CARD OF 'laws.FnExactReadPhrase'. -/
def fnExactReadPhraseUptoCard : Claim7 := { stood := { row := fnExactReadPhraseUptoRow, standIns := [], harness := (true, "32fcc5480ad73d84b53bf51bc49cb151906d8d01f5d6fcd43160d22851182455"), looks := false }, kinds := [], alts := [], laidByText := true, laidKinds := [.data, .data, .data], laidTests := true, laidLooks := .later }
def FnExactReadPhraseUptoCardSaid : Prop := Claim7.holds Tryd.pinned (.plain (OpenSpec.upto fnExactReadPhraseSpec)) fnExactReadPhraseUptoCard

/-- THE SECOND FORM's CARD OF 'laws.FnPhrases'. -/
def fnPhrasesUptoCard : Claim7 := { stood := { row := fnPhrasesUptoRow, standIns := [], harness := (true, "32fcc5480ad73d84b53bf51bc49cb151906d8d01f5d6fcd43160d22851182455"), looks := false }, kinds := [], alts := [], laidByText := true, laidKinds := [.data, .data, .data], laidTests := true, laidLooks := .later }
def FnPhrasesUptoCardSaid : Prop := Claim7.holds Tryd.pinned (.plain (OpenSpec.upto fnPhrasesSpec)) fnPhrasesUptoCard
end Rows
end Go.Proofs.YtnbhfjcpimdnlaaDoor
