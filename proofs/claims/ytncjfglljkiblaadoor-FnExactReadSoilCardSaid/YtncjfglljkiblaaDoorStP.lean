/- The text of a soil, plainly. -/
import Derived.Test.YtncjfglljkiblaaDoorSq
import Derived.Test.YtncjfglljkiblaaDoorDec
namespace Go.Proofs.YtncjfglljkiblaaDoor.So
open Go.ChangeShapes Go.WideShapes Go.ChangeAt Go.RowKit
open Go.Proofs.YtncjfglljkiblaaDoor.Dec

def dd (x : Int) : List UInt8 := Lib.decDigits x.toNat
theorem dec_lenk (k : Nat) : ∀ n, n < 10 ^ (k + 1) → (Lib.decDigits n).length ≤ k + 1 := by
  induction k with
  | zero =>
    intro n h
    rw [Lib.decDigits_one (by omega)]
    simp
  | succ k ih =>
    intro n h
    by_cases c : n < 10
    · rw [Lib.decDigits_one c]; simp
    · rw [Lib.decDigits, dif_neg c]
      have e : 10 ^ (k + 1 + 1) = 10 * 10 ^ (k + 1) := by rw [Nat.pow_succ]; omega
      have := ih (n / 10) (by omega)
      simp
      omega
theorem dd_len {x : Int} (h0 : 0 ≤ x) (h : x ≤ 1000000000000) : (dd x).length ≤ 13 := dec_lenk 12 x.toNat (by omega)
def tx (a b c d f : Int) : List UInt8 := dd a ++ ([32] ++ (dd b ++ ([32] ++ (dd c ++ ([32] ++ (dd d ++ ([32] ++ dd f)))))))
theorem dec_int {x : Int} (h0 : 0 ≤ x) (h : x ≤ 1000000000000) (w : World) : Calls Tryd.prog 16 #[.int .i64 x] w fun e w' => e = .returned (.string ⟨(dd x).toArray⟩) ∧ Below w.heap.size w w' := by
  have := dec_any x.toNat w (by omega)
  rw [show ((x.toNat : Nat) : Int) = x by omega] at this
  exact this

end Go.Proofs.YtncjfglljkiblaaDoor.So
