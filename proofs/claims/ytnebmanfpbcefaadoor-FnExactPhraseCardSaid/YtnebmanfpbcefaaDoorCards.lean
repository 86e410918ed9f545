/-
  DERIVED. GIVEN WITH THE SEED: THE CARDS: each row of YtnebmanfpbcefaaDoorRows.lean that lists a variable, with what it lists TIED to the program's text (the seventh form; the later family's looks); each row that meets fmt, with fmt's text TOLD by the authors' own Lean function (tested against real Go, not proved from fmt's source: count such statements apart). THE CARD IS WHAT COUNTS. Prove the row's statement (the work); the ties are given (YtnebmanfpbcefaaDoorTie.lean); close each card by the builder's one call (the guide's Derived/Test/ToyasCard.lean, 'card_holds'). Laid BY PROGRAM, IN A SANDBOX (cutbox-door.mjs). By AI agents, Wed Nov 11 2026. No macro, syntax, notation, axiom, sorry.
-/
import Derived.Test.YtnebmanfpbcefaaDoorRows
import GoSem.ClaimSeven
namespace Go.Proofs.YtnebmanfpbcefaaDoor
namespace Rows

/-- THE TIED CARD OF 'laws.FnExactPhrase'. -/
def fnExactPhraseCard : Claim7 := { stood := { row := fnExactPhraseRow, standIns := [], harness := (true, "c512e4efc6a0a97b14a7d0948d368c8b3255e75528406b9964567b43e16f24b6"), looks := false }, kinds := [], alts := [], laidByText := true, laidKinds := [.data, .data, .data], laidTests := true, laidLooks := .later }
def FnExactPhraseCardSaid : Prop := Claim7.holds Tryd.pinned (.plain (OpenSpec.ofChange fnExactPhraseSpec)) fnExactPhraseCard

/-- THE SECOND FORM's CARD OF 'laws.FnExactPhrase'. -/
def fnExactPhraseUptoCard : Claim7 := { stood := { row := fnExactPhraseUptoRow, standIns := [], harness := (true, "c512e4efc6a0a97b14a7d0948d368c8b3255e75528406b9964567b43e16f24b6"), looks := false }, kinds := [], alts := [], laidByText := true, laidKinds := [.data, .data, .data], laidTests := true, laidLooks := .later }
def FnExactPhraseUptoCardSaid : Prop := Claim7.holds Tryd.pinned (.plain (OpenSpec.upto fnExactPhraseSpec)) fnExactPhraseUptoCard
end Rows
end Go.Proofs.YtnebmanfpbcefaaDoor
