/- The law of what is dealt, whole. -/
import Derived.Test.YtfnkcoppdelmjaaDw
import Derived.Test.YtfnkcoppdelmjaaEe
namespace Go.Proofs.Ytfnkcoppdelmjaa.Dl
open Go.ChangeShapes Go.WideShapes Go.ChangeAt Go.RowKit
theorem dealtLaw (a : Option Addr) (len cap : Nat) (w : World) (hc : Go.Proofs.Ytfnkcoppdelmjaa.Rd.Code w a len cap) (hn : len < 9223372036854775808) : Calls Try.prog 4 #[.slice a len cap] w fun e w' => e = .returned (.bool true) ∧ Below w.heap.size w w' :=
  dealtLaw0 (fun r W h => Ed.entry_any r W h) a len cap w hc hn
end Go.Proofs.Ytfnkcoppdelmjaa.Dl
