/- Catch and OutletOf: the laws, with both answers in them. -/
import Derived.Test.YtbaoogpapokdbaaCtJ
import Derived.Test.YtbaoogpapokdbaaCtL
import Derived.Test.YtbaoogpapokdbaaOuL
namespace Go.Proofs.Ytbaoogpapokdbaa.Ct
open Go.ChangeShapes Go.WideShapes Go.ChangeAt Go.RowKit
open Go.Proofs.Ytbaoogpapokdbaa.Lists
theorem catchAll (w : World) (v : Value) (N : List Int) (hN : Lists.Reads w v N) (hf : N.length < 9223372036854775808) :
    Calls Try.prog 3 #[v] w fun e w' => e = .returned (.bool true) ∧ Below w.heap.size w w' :=
  LawCtL.catchLaw w v N hN hf (cat N) (cat_len N) (okN N) (scatch_any N hf) (icatch_any N hf)
theorem outletAll (w : World) (v : Value) (N : List Int) (hN : Lists.Reads w v N) (hf : N.length < 9223372036854775808) (c : Int) :
    Calls Try.prog 4 #[v, .int .i64 c] w fun e w' => e = .returned (.bool true) ∧ Below w.heap.size w w' :=
  LawOuL.outletLaw w v N hN hf c (outl N c) (soutlet_any N c hf) (ioutlet_any N c hf)
end Go.Proofs.Ytbaoogpapokdbaa.Ct
