/-
  DERIVED. GIVEN WITH THE SEED: THE CARDS: each row of YtoaabdmbgemkjaaGreatDoorRows.lean that lists a variable, with what it lists TIED to the program's text (the seventh form; the later family's looks); each row that meets fmt, with fmt's text TOLD by the authors' own Lean function (tested against real Go, not proved from fmt's source: count such statements apart). THE CARD IS WHAT COUNTS. Prove the row's statement (the work); the ties are given (YtoaabdmbgemkjaaGreatDoorTie.lean); close each card by the builder's one call (the guide's Derived/Test/ToyasCard.lean, 'card_holds'). Laid BY PROGRAM, IN A SANDBOX (cutbox-door.mjs). By AI agents, Wed Nov 11 2026. No macro, syntax, notation, axiom, sorry.
-/
import Derived.Test.YtoaabdmbgemkjaaGreatDoorRows
import GoSem.ClaimSeven
namespace Go.Proofs.YtoaabdmbgemkjaaGreatDoor
namespace Rows

/-- THE TIED CARD OF 'laws.FnExactTafText'. -/
def fnExactTafTextCard : Claim7 := { stood := { row := fnExactTafTextRow, standIns := [], harness := (true, "58fb14dafe559bc9b65e7d74597a5ba7970f2b366ddd29dd5bc3cf8e1e732c7e"), looks := false }, kinds := [], alts := [], laidByText := true, laidKinds := [.data, .data, .data, .data], laidTests := true, laidLooks := .later }
def FnExactTafTextCardSaid : Prop := Claim7.holds Tryz.pinned (.plain (OpenSpec.ofChange fnExactTafTextSpec)) fnExactTafTextCard

/-- THE SECOND FORM's CARD OF 'laws.FnExactTafText'. -/
def fnExactTafTextUptoCard : Claim7 := { stood := { row := fnExactTafTextUptoRow, standIns := [], harness := (true, "58fb14dafe559bc9b65e7d74597a5ba7970f2b366ddd29dd5bc3cf8e1e732c7e"), looks := false }, kinds := [], alts := [], laidByText := true, laidKinds := [.data, .data, .data, .data], laidTests := true, laidLooks := .later }
def FnExactTafTextUptoCardSaid : Prop := Claim7.holds Tryz.pinned (.plain (OpenSpec.upto fnExactTafTextSpec)) fnExactTafTextUptoCard
end Rows
end Go.Proofs.YtoaabdmbgemkjaaGreatDoor
