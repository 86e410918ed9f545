/- A number told by another place is rounded alike; halves. -/
import Derived.Test.YtgnnmepjdmcecaaFltS
namespace Go.Proofs.Ytgnnmepjdmcecaa.Flt
open Ieee

theorem log_shift (m k : Nat) (hm : m ≠ 0) : (m * 2 ^ k).log2 = m.log2 + k := by
  obtain ⟨b1, b2⟩ := log_bounds m k hm
  have hn : m * 2 ^ k ≠ 0 := Nat.mul_ne_zero hm (Nat.pos_iff_ne_zero.1 (Nat.two_pow_pos k))
  have c1 : 2 ^ (m * 2 ^ k).log2 ≤ m * 2 ^ k := Nat.log2_self_le hn
  have c2 : m * 2 ^ k < 2 ^ ((m * 2 ^ k).log2 + 1) := Nat.lt_log2_self
  have := pow_between c1 c2 b1 b2
  omega

theorem near_scale (t : Bool) (m k : Nat) (p : Int) : double.nearest t (m * 2 ^ k) p = double.nearest t m (p + (k : Int)) := by
  by_cases hm : m = 0
  · subst hm
    rw [Nat.zero_mul, near_zero, near_zero]
  · have hn : m * 2 ^ k ≠ 0 := Nat.mul_ne_zero hm (Nat.pos_iff_ne_zero.1 (Nat.two_pow_pos k))
    unfold Format.nearest
    rw [if_neg hm, if_neg hn, log_shift m k hm]
    dsimp only
    have el : p + ((m.log2 + k : Nat) : Int) - (double.fractionBits : Int) = p + (k : Int) + (m.log2 : Int) - (double.fractionBits : Int) := by omega
    rw [el]
    generalize max (p + (k : Int) + (m.log2 : Int) - (double.fractionBits : Int)) double.leastPlace = L
    congr 3
    rw [cut_even, cut_even, Nat.shiftLeft_eq, Nat.shiftLeft_eq]
    by_cases h1 : L ≤ p
    · have a1 : (L - p).toNat = 0 := by omega
      have a2 : (L - (p + (k : Int))).toNat = 0 := by omega
      have a3 : (p + (k : Int) - L).toNat = k + (p - L).toNat := by omega
      rw [a1, a2, a3, Nat.pow_add, Nat.mul_assoc]
    · by_cases h2 : L ≤ p + k
      · have a1 : (p - L).toNat = 0 := by omega
        have a2 : (L - (p + (k : Int))).toNat = 0 := by omega
        have a3 : k = (p + (k : Int) - L).toNat + (L - p).toNat := by omega
        rw [a1, a2, Nat.pow_zero, Nat.mul_one, rhe_one]
        conv => lhs; rw [a3, Nat.pow_add, ← Nat.mul_assoc]
        exact rhe_mul _ _ (Nat.two_pow_pos _)
      · have a1 : (p - L).toNat = 0 := by omega
        have a2 : (p + (k : Int) - L).toNat = 0 := by omega
        have a3 : (L - p).toNat = (L - (p + (k : Int))).toNat + k := by omega
        rw [a1, a2, a3, Nat.pow_zero, Nat.mul_one, Nat.mul_one, Nat.pow_add]
        exact rhe_scale _ _ _ (Nat.two_pow_pos _)

end Go.Proofs.Ytgnnmepjdmcecaa.Flt
