/- How long padded numerals are. -/
import Derived.Test.YtepofpmdkphhdaaDoorDec
namespace Go.Proofs.YtepofpmdkphhdaaDoor.Dec
open Go.ChangeShapes Go.WideShapes Go.ChangeAt Go.RowKit

theorem dec_len2 (n : Nat) (h : n ≤ 99) : (Lib.decDigits n).length ≤ 2 := by
  by_cases c : n < 10
  · rw [Lib.decDigits_one c]; simp
  · rw [Lib.decDigits_two c (by omega)]; simp
theorem dec_len4 (n : Nat) (h : n ≤ 9999) : (Lib.decDigits n).length ≤ 4 := by
  by_cases c : n < 10
  · rw [Lib.decDigits_one c]; simp
  · rw [Lib.decDigits, dif_neg c]
    by_cases c2 : n / 10 < 10
    · rw [Lib.decDigits_one c2]; simp
    · rw [Lib.decDigits, dif_neg c2]
      have := dec_len2 (n / 10 / 10) (by omega)
      simp
      omega
theorem pad_len (k : Nat) (l : List UInt8) (h : l.length ≤ k) : (pad k l).length = k := by
  unfold pad
  simp
  omega

end Go.Proofs.YtepofpmdkphhdaaDoor.Dec
