/- Highs: the law with both answers in it. -/
import Derived.Test.YtkhcgobmmnbgnaaHh
import Derived.Test.YtkhcgobmmnbgnaaHxL
namespace Go.Proofs.Ytkhcgobmmnbgnaa.Hh
open Go.ChangeShapes Go.WideShapes Go.ChangeAt Go.RowKit
open Go.Proofs.Ytkhcgobmmnbgnaa.Lists
theorem fits {w : World} {v : Value} {L : List Nat} (h : Fls.Reads w v L) : L.length < 9223372036854775808 := by
  rcases h with ⟨rfl, _⟩ | ⟨b, o, c, _, h1, h2, _⟩
  · decide
  · unfold maxLen at h2; omega
theorem highsAll (w : World) (v : Value) (L : List Nat) (hL : Fls.Reads w v L) (_ : ∀ z ∈ L, z < 18446744073709551616) :
    Calls Try.prog 3 #[v] w fun e w' => e = .returned (.bool true) ∧ Below w.heap.size w w' :=
  LawHxL.hxLaw w v L hL (fits hL) (X0 L) (X0_len L) (fun w t h => shi_any L t w h (fits hL)) (fun w t h => ihi_any L t w h)
end Go.Proofs.Ytkhcgobmmnbgnaa.Hh
