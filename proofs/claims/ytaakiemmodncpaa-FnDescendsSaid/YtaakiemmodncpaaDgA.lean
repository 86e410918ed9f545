/- FnDescends at every code. -/
import Derived.Test.YtaakiemmodncpaaDg
namespace Go.Proofs.Ytaakiemmodncpaa.Dg
open Go.ChangeShapes Go.WideShapes Go.ChangeAt Go.RowKit
theorem law_all (a : Option Addr) (l cap : Nat) (w : World) (hc : Rd.Code w a l cap) (hl : l < 9223372036854775808) :
    Calls Try.prog 4 #[.slice a l cap] w fun e w' => e = .returned (.bool true) ∧ Below w.heap.size w w' := by
  by_cases h : 1048576 < l
  · exact law_no w a l cap hl h
  · exact law_any w a l cap hc (by omega)
end Go.Proofs.Ytaakiemmodncpaa.Dg
