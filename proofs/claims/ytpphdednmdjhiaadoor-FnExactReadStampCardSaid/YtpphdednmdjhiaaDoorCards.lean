/-
  DERIVED. GIVEN WITH THE SEED: THE CARDS: each row of YtpphdednmdjhiaaDoorRows.lean that lists a variable, with what it lists TIED to the program's text (the seventh form; the later family's looks); each row that meets fmt, with fmt's text TOLD by the authors' own Lean function (tested against real Go, not proved from fmt's source: count such statements apart). THE CARD IS WHAT COUNTS. Prove the row's statement (the work); the ties are given (YtpphdednmdjhiaaDoorTie.lean); close each card by the builder's one call (the guide's Derived/Test/ToyasCard.lean, 'card_holds'). Laid BY PROGRAM, IN A SANDBOX (cutbox-door.mjs). By AI agents, Wed Nov 11 2026. No macro, syntax, notation, axiom, sorry.
-/
import Derived.Test.YtpphdednmdjhiaaDoorRows
import GoSem.ClaimSeven
namespace Go.Proofs.YtpphdednmdjhiaaDoor
namespace Rows

/-- THE TIED CARD OF 'laws.FnExactStamp'. -/
def fnExactStampCard : Claim7 := { stood := { row := fnExactStampRow, standIns := [], harness := (true, "2a855ddad862555fe0bd0d8c51e6acef52a3f723b124c70e9af079d9bbdd0602"), looks := false }, kinds := [], alts := [], laidByText := true, laidKinds := [.data, .data, .data, .data], laidTests := true, laidLooks := .later }
def FnExactStampCardSaid : Prop := Claim7.holds Tryd.pinned (.plain (OpenSpec.ofChange fnExactStampSpec)) fnExactStampCard

/-- THE TIED CARD OF 'laws.FnExactReadStamp'. -/
def fnExactReadStampCard : Claim7 := { stood := { row := fnExactReadStampRow, standIns := [], harness := (true, "2a855ddad862555fe0bd0d8c51e6acef52a3f723b124c70e9af079d9bbdd0602"), looks := false }, kinds := [], alts := [], laidByText := true, laidKinds := [.data, .data, .data, .data], laidTests := true, laidLooks := .later }
def FnExactReadStampCardSaid : Prop := Claim7.holds Tryd.pinned (.plain (OpenSpec.ofChange fnExactReadStampSpec)) fnExactReadStampCard

/-- THE SECOND FORM's CARD OF 'laws.FnExactStamp'. -/
def fnExactStampUptoCard : Claim7 := { stood := { row := fnExactStampUptoRow, standIns := [], harness := (true, "2a855ddad862555fe0bd0d8c51e6acef52a3f723b124c70e9af079d9bbdd0602"), looks := false }, kinds := [], alts := [], laidByText := true, laidKinds := [.data, .data, .data, .data], laidTests := true, laidLooks := .later }
def FnExactStampUptoCardSaid : Prop := Claim7.holds Tryd.pinned (.plain (OpenSpec.upto fnExactStampSpec)) fnExactStampUptoCard

/-- THE SECOND FORM's CARD OF 'laws.FnExactReadStamp'. -/
def fnExactReadStampUptoCard : Claim7 := { stood := { row := fnExactReadStampUptoRow, standIns := [], harness := (true, "2a855ddad862555fe0bd0d8c51e6acef52a3f723b124c70e9af079d9bbdd0602"), looks := false }, kinds := [], alts := [], laidByText := true, laidKinds := [.data, .data, .data, .data], laidTests := true, laidLooks := .later }
def FnExactReadStampUptoCardSaid : Prop := Claim7.holds Tryd.pinned (.plain (OpenSpec.upto fnExactReadStampSpec)) fnExactReadStampUptoCard
end Rows
end Go.Proofs.YtpphdednmdjhiaaDoor
