/- Jobs marked and held from any mark on. -/
import Derived.Test.YtfhpomfdkpfooaaJb
namespace Go.Proofs.Ytfhpomfdkpfooaa.Jb
open Go.ChangeShapes Go.WideShapes Go.ChangeAt Go.RowKit

def mkw (k0 : Int) (n : Nat) : Ls := (List.range n).map fun (i : Nat) => (k0 + (i : Int) * 2, k0 + (i : Int) * 2 + 1)
theorem mkw_len (k0 : Int) (n : Nat) : (mkw k0 n).length = n := by simp [mkw]
theorem mkw_at (k0 : Int) (n i : Nat) (h : i < n) : c0 (mkw k0 n) i = k0 + (i : Int) * 2 ∧ c1 (mkw k0 n) i = k0 + (i : Int) * 2 + 1 := by
  simp [c0, c1, mkw, List.getD_eq_getElem?_getD, h]
end Go.Proofs.Ytfhpomfdkpfooaa.Jb
