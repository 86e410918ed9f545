/- The text of a soil, plainly. -/
import Derived.Test.YtgimdhdioigmiaaDoorSq
import Derived.Test.YtgimdhdioigmiaaDoorDec
namespace Go.Proofs.YtgimdhdioigmiaaDoor.So
open Go.ChangeShapes Go.WideShapes Go.ChangeAt Go.RowKit
open Go.Proofs.YtgimdhdioigmiaaDoor.Dec

def dd (x : Int) : List UInt8 := Lib.decDigits x.toNat
theorem dec_lenk (k : Nat) : ∀ n, n < 10 ^ (k + 1) → (Lib.decDigits n).length ≤ k + 1 := by
  induction k with
  | zero =>
    intro n h
    rw [Lib.decDigits_one (by omega)]
    simp
  | succ k ih =>
    intro n h
    by_cases c : n < 10
    · rw [Lib.decDigits_one c]; simp
    · rw [Lib.decDigits, dif_neg c]
      have e : 10 ^ (k + 1 + 1) = 10 * 10 ^ (k + 1) := by rw [Nat.pow_succ]; omega
      have := ih (n / 10) (by omega)
      simp
      omega
theorem dd_len {x : Int} (h0 : 0 ≤ x) (h : x ≤ 1000000000000) : (dd x).length ≤ 13 := dec_lenk 12 x.toNat (by omega)
def tx (a b c d f : Int) : List UInt8 := dd a ++ ([32] ++ (dd b ++ ([32] ++ (dd c ++ ([32] ++ (dd d ++ ([32] ++ dd f)))))))
end Go.Proofs.YtgimdhdioigmiaaDoor.So
