/- Floats and whole numbers: what is rounded, what is exact. Nothing of the program in it. -/
import Derived.Test.YtfjkchkcgnjkaaaFlt
import Derived.Laws.FloatArith
import Derived.Laws.Cover2
namespace Go.Proofs.Ytfjkchkcgnjkaaa.Flt
open Ieee

/-- n by g to the nearest whole number, between two the even one. -/
def rhe (n g : Nat) : Nat := n / g + if g < 2 * (n % g) ∨ g = 2 * (n % g) ∧ n / g % 2 = 1 then 1 else 0

theorem rhe_scale (n g c : Nat) (hc : 0 < c) : rhe (n * c) (g * c) = rhe n g := by
  unfold rhe
  rw [Nat.mul_div_mul_right _ _ hc, Nat.mul_mod_mul_right]
  have e1 : g * c < 2 * (n % g * c) ↔ g < 2 * (n % g) := by
    rw [← Nat.mul_assoc]
    exact Nat.mul_lt_mul_right hc
  have e2 : g * c = 2 * (n % g * c) ↔ g = 2 * (n % g) := by
    rw [← Nat.mul_assoc]
    exact ⟨fun h => Nat.eq_of_mul_eq_mul_right hc h, fun h => by rw [← h]⟩
  simp only [e1, e2]

theorem rhe_one (n : Nat) : rhe n 1 = n := by
  unfold rhe
  simp [Nat.mod_one]

theorem rhe_mul (n g : Nat) (hg : 0 < g) : rhe (n * g) g = n := by
  have := rhe_scale n 1 g hg
  rw [Nat.one_mul] at this
  rw [this, rhe_one]

theorem small_log (n d : Nat) (h : n.log2 + 2 < d) : 2 * n < 2 ^ (n.log2 + 2) ∧ 2 * n < 2 ^ d := by
  have h1 : n < 2 ^ (n.log2 + 1) := Nat.lt_log2_self
  have h2 : 2 * n < 2 ^ (n.log2 + 2) := by
    have : 2 ^ (n.log2 + 2) = 2 * 2 ^ (n.log2 + 1) := by rw [Nat.pow_succ]; omega
    omega
  exact ⟨h2, Nat.lt_trans h2 (Nat.pow_lt_pow_right (by omega) h)⟩

theorem cut_even (s : Bool) (n d : Nat) : Toward.even.cut s n d = rhe n (2 ^ d) := by
  unfold Toward.cut
  simp only [Nat.one_shiftLeft]
  by_cases h : d ≤ n.log2 + 2
  · rw [Nat.min_eq_left h]
    unfold rhe
    congr 1
    by_cases c1 : 2 ^ d < 2 * (n % 2 ^ d)
    · simp [c1]
    · by_cases c2 : 2 ^ d = 2 * (n % 2 ^ d) ∧ n / 2 ^ d % 2 = 1
      · obtain ⟨c2, c3⟩ := c2
        simp [← c2, c3]
      · have c4 : ¬ (2 ^ d < 2 * (n % 2 ^ d) ∨ 2 ^ d = 2 * (n % 2 ^ d) ∧ n / 2 ^ d % 2 = 1) := by
          rintro (h | h)
          · exact c1 h
          · exact c2 h
        rw [if_neg c4]
        simp [c1]
        intro h1
        by_cases h2 : n / 2 ^ d % 2 = 1
        · exact absurd ⟨h1, h2⟩ c2
        · omega
  · have hd : n.log2 + 2 < d := by omega
    obtain ⟨h1, h2⟩ := small_log n d hd
    rw [Nat.min_eq_right (by omega)]
    have a1 : n / 2 ^ (n.log2 + 2) = 0 := Nat.div_eq_of_lt (by omega)
    have a2 : n % 2 ^ (n.log2 + 2) = n := Nat.mod_eq_of_lt (by omega)
    have a3 : n / 2 ^ d = 0 := Nat.div_eq_of_lt (by omega)
    have a4 : n % 2 ^ d = n := Nat.mod_eq_of_lt (by omega)
    unfold rhe
    rw [a1, a2, a3, a4]
    have b1 : ¬ 2 ^ (n.log2 + 2) < 2 * n := by omega
    have b2 : ¬ (2 ^ d < 2 * n ∨ 2 ^ d = 2 * n ∧ 0 % 2 = 1) := by omega
    rw [if_neg b2]
    simp [b1]

theorem cut_zero (s : Bool) (n d : Nat) : Toward.zero.cut s n d = n / 2 ^ d := by
  unfold Toward.cut
  simp only [Nat.one_shiftLeft]
  by_cases h : d ≤ n.log2 + 2
  · rw [Nat.min_eq_left h]
    simp
  · have hd : n.log2 + 2 < d := by omega
    obtain ⟨h1, h2⟩ := small_log n d hd
    rw [Nat.min_eq_right (by omega)]
    have a1 : n / 2 ^ (n.log2 + 2) = 0 := Nat.div_eq_of_lt (by omega)
    have a3 : n / 2 ^ d = 0 := Nat.div_eq_of_lt (by omega)
    rw [a1, a3]
    simp
end Go.Proofs.Ytfjkchkcgnjkaaa.Flt
