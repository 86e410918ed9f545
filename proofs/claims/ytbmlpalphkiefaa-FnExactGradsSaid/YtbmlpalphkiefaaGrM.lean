/- The law of Grads in the form in which the claim's text calls it: with the (unused) bound of the numbers' bits. -/
import Derived.Test.YtbmlpalphkiefaaGrL
namespace Go.Proofs.Ytbmlpalphkiefaa.Gd
open Go.ChangeShapes Go.WideShapes Go.ChangeAt Go.RowKit
open Go.Proofs.Ytbmlpalphkiefaa.Flt
theorem gradsLaw2 (W : World) (r c s ws st : Int) (v : Value) (L : List Nat) (hL : Fls.Reads W v L) (_ : ∀ z ∈ L, z < 18446744073709551616) :
    Calls Try.prog 4 #[gv r c s ws st, v] W fun e w' => e = .returned (.bool true) ∧ Below W.heap.size W w' :=
  gradsLaw W r c s ws st v L hL
end Go.Proofs.Ytbmlpalphkiefaa.Gd
