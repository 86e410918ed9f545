/- Spectrum: the law, with both answers in it. -/
import Derived.Test.YtchlpkgmflbaeaaSpO
import Derived.Test.YtchlpkgmflbaeaaSpL
namespace Go.Proofs.Ytchlpkgmflbaeaa.Sp
open Go.ChangeShapes Go.WideShapes Go.ChangeAt Go.RowKit
open Go.Proofs.Ytchlpkgmflbaeaa.Lists Go.Proofs.Ytchlpkgmflbaeaa.Mx
theorem specAll (w : World) (v : Value) (L : List Int) (hL : Lists.Reads w v L) (lf : L.length < 9223372036854775808) :
    Calls Try.prog 3 #[v] w fun e w' => e = .returned (.bool true) ∧ Below w.heap.size w w' :=
  LawSpL.specLaw w v L hL lf (spx L) (spx_len L) (okR L) (sspec_any L lf) (ispec_any L lf)
end Go.Proofs.Ytchlpkgmflbaeaa.Sp
