/- The float64 nearest to a number lies on the same side of every float64 as the number does. -/
import Derived.Test.YtgnnmepjdmcecaaFltX
namespace Go.Proofs.Ytgnnmepjdmcecaa.Flt
open Ieee

theorem rhe_ge (n g : Nat) : n / g ≤ rhe n g := by unfold rhe; omega
theorem rhe_up (n g : Nat) : rhe n g ≤ n / g + 1 := by unfold rhe; split <;> omega
theorem rhe_le' (n g M : Nat) (hg : 0 < g) (h : n ≤ M * g) : rhe n g ≤ M := by
  by_cases c : n / g < M
  · have := rhe_up n g; omega
  · have h1 : n / g ≤ M := Nat.div_le_of_le_mul (by rw [Nat.mul_comm]; exact h)
    have h2 : n / g = M := by omega
    have h3 := Nat.div_add_mod n g
    rw [h2, Nat.mul_comm] at h3
    have h4 : n % g = 0 := by omega
    unfold rhe
    rw [h4, h2, if_neg (by omega)]
    omega

theorem val_small (r : Nat) (h : r < 4503599627370496) : val r = r := by unfold val; rw [if_pos h]

theorem near_ge (s : Bool) (m a r : Nat) (h : val r ≤ m * 2 ^ a) (hr : r ≤ 9218868437227405312) : r ≤ rng (double.nearest s m (-1074 + (a : Int))) := by
  by_cases hm : m = 0
  · subst hm
    rw [near_zero, (word_rng s 0 (by omega)).1]
    by_cases c : r = 0
    · omega
    · have := val_lt (show 0 < r by omega)
      rw [val_zero] at this
      omega
  · obtain ⟨b1, b2⟩ := log_bounds m a hm
    generalize hv : m * 2 ^ a = v at *
    by_cases hl : a + m.log2 < 52
    · rw [near_low s m a hm hl, hv, (word_rng s _ (by omega)).1]
      have hp : 2 ^ (a + m.log2 + 1) ≤ 2 ^ 52 := Nat.pow_le_pow_right (by omega) (by omega)
      have h52 : (2 : Nat) ^ 52 = 4503599627370496 := by decide
      rw [h52] at hp
      by_cases c : r < 4503599627370496
      · rw [val_small r c] at h
        omega
      · obtain ⟨M, k, e1, e2, e3, e4, e5, e6⟩ := val_high r (by omega)
        have : 2 ^ 52 ≤ 2 ^ (k + 52) := Nat.pow_le_pow_right (by omega) (by omega)
        rw [h52] at this
        omega
    · rw [near_high s m a hm (by omega), hv, (word_rng s _ (by omega)).1]
      obtain ⟨k, hk⟩ : ∃ k, k = a + m.log2 - 52 := ⟨_, rfl⟩
      rw [← hk]
      have ek : a + m.log2 = k + 52 := by omega
      rw [ek] at b1 b2
      have hg : 0 < 2 ^ k := Nat.two_pow_pos k
      have hq := rhe_ge v (2 ^ k)
      have hd : 4503599627370496 ≤ v / 2 ^ k := (Nat.le_div_iff_mul_le hg).2 (by rw [show (4503599627370496 : Nat) = 2 ^ 52 by decide, ← Nat.pow_add, Nat.add_comm]; exact b1)
      have key : r ≤ k * 4503599627370496 + rhe v (2 ^ k) := by
        by_cases c : r < 4503599627370496
        · omega
        · obtain ⟨M, j, e1, e2, e3, e4, e5, e6⟩ := val_high r (by omega)
          have hj : j < k + 1 := by
            have : 2 ^ (j + 52) < 2 ^ (k + 52 + 1) := by omega
            have := (Nat.pow_lt_pow_iff_right (by omega : 1 < 2)).1 this
            omega
          by_cases c2 : j = k
          · have : M ≤ v / 2 ^ k := (Nat.le_div_iff_mul_le hg).2 (by rw [← c2, ← e1]; exact h)
            rw [c2] at e4
            omega
          · have : (j + 1) * 4503599627370496 ≤ k * 4503599627370496 := Nat.mul_le_mul_right _ (by omega)
            omega
      exact Nat.le_min.2 ⟨key, hr⟩

theorem near_le (s : Bool) (m a r : Nat) (h : m * 2 ^ a ≤ val r) : rng (double.nearest s m (-1074 + (a : Int))) ≤ r := by
  by_cases hm : m = 0
  · subst hm
    rw [near_zero, (word_rng s 0 (by omega)).1]
    omega
  · obtain ⟨b1, b2⟩ := log_bounds m a hm
    generalize hv : m * 2 ^ a = v at *
    have h52 : (2 : Nat) ^ 52 = 4503599627370496 := by decide
    by_cases hl : a + m.log2 < 52
    · rw [near_low s m a hm hl, hv, (word_rng s _ (by omega)).1]
      have hp : 2 ^ (a + m.log2 + 1) ≤ 2 ^ 52 := Nat.pow_le_pow_right (by omega) (by omega)
      rw [h52] at hp
      by_cases c : r < 4503599627370496
      · rw [val_small r c] at h
        omega
      · omega
    · rw [near_high s m a hm (by omega), hv, (word_rng s _ (by omega)).1]
      obtain ⟨k, hk⟩ : ∃ k, k = a + m.log2 - 52 := ⟨_, rfl⟩
      rw [← hk]
      have ek : a + m.log2 = k + 52 := by omega
      rw [ek] at b1 b2
      have hg : 0 < 2 ^ k := Nat.two_pow_pos k
      have key : k * 4503599627370496 + rhe v (2 ^ k) ≤ r := by
        have hb : 2 ^ 52 ≤ 2 ^ (k + 52) := Nat.pow_le_pow_right (by omega) (by omega)
        rw [h52] at hb
        by_cases c : r < 4503599627370496
        · rw [val_small r c] at h
          omega
        · obtain ⟨M, j, e1, e2, e3, e4, e5, e6⟩ := val_high r (by omega)
          have hj : k < j + 1 := by
            have : 2 ^ (k + 52) < 2 ^ (j + 52 + 1) := by omega
            have := (Nat.pow_lt_pow_iff_right (by omega : 1 < 2)).1 this
            omega
          by_cases c2 : k = j
          · have : rhe v (2 ^ k) ≤ M := rhe_le' v (2 ^ k) M hg (by rw [c2, ← e1]; exact h)
            rw [c2]
            rw [c2] at this
            omega
          · have h1 : rhe v (2 ^ k) ≤ 9007199254740992 := rhe_le' v (2 ^ k) 9007199254740992 hg (by
              rw [show (9007199254740992 : Nat) = 2 ^ 53 by decide, ← Nat.pow_add, show 53 + k = k + 52 + 1 by omega]; omega)
            have : (k + 1) * 4503599627370496 ≤ j * 4503599627370496 := Nat.mul_le_mul_right _ (by omega)
            omega
      exact Nat.le_trans (Nat.min_le_left _ _) key
end Go.Proofs.Ytgnnmepjdmcecaa.Flt
