/- Rows of structs with strings: marked, held. -/
import Derived.Test.YtkegllbedejkgaaDoorMt
import Derived.Test.YtkegllbedejkgaaDoorEn
namespace Go.Proofs.YtkegllbedejkgaaDoor.En
open Go.ChangeShapes Go.WideShapes Go.ChangeAt Go.RowKit

def mti (z : Int) : ByteArray := To.mtx z.toNat
theorem grown_below {w w1 w2 : World} {row : Option Nat} (h : w.grownBy w1 row) (hb : Below w1.heap.size w1 w2) : w.grownBy w2 row := ⟨hb.os.trans h.os, hb.tape.trans h.tape, hb.output.trans h.output, Nat.le_trans h.size hb.size, fun k hk hne => (hb.block k (Nat.lt_of_lt_of_le hk h.size)).trans (h.block k hk hne)⟩
def mks (n : Nat) : Ls := (List.range n).map fun (i : Nat) => (mti (1 + (i : Int) * 5), 1 + (i : Int) * 5 + 1, 1 + (i : Int) * 5 + 1 + 1, 1 + (i : Int) * 5 + 1 + 1 + 1, 1 + (i : Int) * 5 + 1 + 1 + 1 + 1)
theorem mks_len (n : Nat) : (mks n).length = n := by simp [mks]
theorem mks_at (n i : Nat) (h : i < n) : c0 (mks n) i = mti (1 + (i : Int) * 5) ∧ c1 (mks n) i = 1 + (i : Int) * 5 + 1 ∧ c2 (mks n) i = 1 + (i : Int) * 5 + 1 + 1 ∧ c3 (mks n) i = 1 + (i : Int) * 5 + 1 + 1 + 1 ∧ c4 (mks n) i = 1 + (i : Int) * 5 + 1 + 1 + 1 + 1 := by
  simp [c0, c1, c2, c3, c4, mks, List.getD_eq_getElem?_getD, h]
end Go.Proofs.YtkegllbedejkgaaDoor.En
