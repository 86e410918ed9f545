/- Longest: the law, with both answers in it. -/
import Derived.Test.YtpenjblhnihjkaaLg
import Derived.Test.YtpenjblhnihjkaaLgL
namespace Go.Proofs.Ytpenjblhnihjkaa.Lg
open Go.ChangeShapes Go.WideShapes Go.ChangeAt Go.RowKit
theorem longAll (w : World) (v : Value) (L : Ts.Ls) (h : Ts.Reads w v L) :
    Calls Try.prog 4 #[v] w fun e w' => e = .returned (.bool true) ∧ Below w.heap.size w w' :=
  LawLgL.longLaw w v L h (lo L) (slong_any L) (ilong_any L)
end Go.Proofs.Ytpenjblhnihjkaa.Lg
