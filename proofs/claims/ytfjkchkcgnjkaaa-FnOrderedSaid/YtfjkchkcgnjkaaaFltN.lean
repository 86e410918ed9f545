/- The float64 nearest to a number: its rung; numbers that a float64 has are written as they are. -/
import Derived.Test.YtfjkchkcgnjkaaaFltR
namespace Go.Proofs.Ytfjkchkcgnjkaaa.Flt
open Ieee

theorem near_low (s : Bool) (m a : Nat) (hm : m ≠ 0) (h : a + m.log2 < 52) : double.nearest s m (-1074 + (a : Int)) = double.word s (min (m * 2 ^ a) 9218868437227405312) := by
  have e1 : double.leastPlace = -1074 := rfl
  have e2 : double.fractionBits = 52 := rfl
  have e3 : double.infRung = 9218868437227405312 := rfl
  unfold Format.nearest
  rw [if_neg hm]
  dsimp only
  rw [e1, e2, e3]
  have l : max (-1074 + (a : Int) + (m.log2 : Int) - ((52 : Nat) : Int)) (-1074) = -1074 := by omega
  rw [l]
  have a1 : (-1074 + (a : Int) - -1074).toNat = a := by omega
  have a2 : (-1074 - (-1074 + (a : Int))).toNat = 0 := by omega
  have a3 : ((-1074 : Int) - -1074).toNat = 0 := by omega
  rw [a1, a2, a3, cut_even, Nat.pow_zero, rhe_one, Nat.shiftLeft_eq, Nat.zero_mul, Nat.zero_add]

theorem near_high (s : Bool) (m a : Nat) (hm : m ≠ 0) (h : 52 ≤ a + m.log2) : double.nearest s m (-1074 + (a : Int)) = double.word s (min ((a + m.log2 - 52) * 4503599627370496 + rhe (m * 2 ^ a) (2 ^ (a + m.log2 - 52))) 9218868437227405312) := by
  have e1 : double.leastPlace = -1074 := rfl
  have e2 : double.fractionBits = 52 := rfl
  have e3 : double.infRung = 9218868437227405312 := rfl
  have e4 : double.binade = 4503599627370496 := rfl
  unfold Format.nearest
  rw [if_neg hm]
  dsimp only
  rw [e1, e2, e3, e4]
  generalize m.log2 = L at *
  obtain ⟨k, hk⟩ : ∃ k, k = a + L - 52 := ⟨_, rfl⟩
  rw [← hk]
  have l : max (-1074 + (a : Int) + (L : Int) - ((52 : Nat) : Int)) (-1074) = -1074 + (k : Int) := by omega
  rw [l]
  have a3 : (-1074 + (k : Int) - -1074).toNat = k := by omega
  rw [a3, cut_even, Nat.shiftLeft_eq]
  congr 3
  by_cases hL : L ≤ 52
  · have a1 : (-1074 + (a : Int) - (-1074 + (k : Int))).toNat = 52 - L := by omega
    have a2 : (-1074 + (k : Int) - (-1074 + (a : Int))).toNat = 0 := by omega
    have a4 : a = (52 - L) + k := by omega
    rw [a1, a2, Nat.pow_zero, rhe_one]
    conv => rhs; rw [a4, Nat.pow_add, ← Nat.mul_assoc]
    rw [rhe_mul _ _ (Nat.two_pow_pos k)]
  · have a1 : (-1074 + (a : Int) - (-1074 + (k : Int))).toNat = 0 := by omega
    have a2 : (-1074 + (k : Int) - (-1074 + (a : Int))).toNat = L - 52 := by omega
    have a4 : k = (L - 52) + a := by omega
    rw [a1, a2, Nat.pow_zero, Nat.mul_one]
    conv => rhs; rw [a4, Nat.pow_add]
    rw [rhe_scale _ _ _ (Nat.two_pow_pos a)]

theorem near_zero (s : Bool) (p : Int) : double.nearest s 0 p = double.word s 0 := by
  unfold Format.nearest
  rw [if_pos rfl]

theorem log_bounds (m a : Nat) (hm : m ≠ 0) : 2 ^ (a + m.log2) ≤ m * 2 ^ a ∧ m * 2 ^ a < 2 ^ (a + m.log2 + 1) := by
  have h1 : 2 ^ m.log2 ≤ m := Nat.log2_self_le hm
  have h2 : m < 2 ^ (m.log2 + 1) := Nat.lt_log2_self
  constructor
  · rw [Nat.add_comm, Nat.pow_add]
    exact Nat.mul_le_mul_right _ h1
  · have : a + m.log2 + 1 = (m.log2 + 1) + a := by omega
    rw [this, Nat.pow_add]
    exact Nat.mul_lt_mul_of_pos_right h2 (Nat.two_pow_pos a)

theorem pow_between {p q v : Nat} (h1 : 2 ^ p ≤ v) (h2 : v < 2 ^ (p + 1)) (h3 : 2 ^ q ≤ v) (h4 : v < 2 ^ (q + 1)) : p = q := by
  have a : p < q + 1 := (Nat.pow_lt_pow_iff_right (by omega : 1 < 2)).1 (Nat.lt_of_le_of_lt h1 h4)
  have b : q < p + 1 := (Nat.pow_lt_pow_iff_right (by omega : 1 < 2)).1 (Nat.lt_of_le_of_lt h3 h2)
  omega

theorem val_high (r : Nat) (h : 4503599627370496 ≤ r) : ∃ M k, val r = M * 2 ^ k ∧ 4503599627370496 ≤ M ∧ M < 9007199254740992 ∧ r = k * 4503599627370496 + M ∧ 2 ^ (k + 52) ≤ val r ∧ val r < 2 ^ (k + 52 + 1) := by
  refine ⟨4503599627370496 + r % 4503599627370496, r / 4503599627370496 - 1, ?_, by omega, by omega, by omega, ?_, ?_⟩
  · unfold val; rw [if_neg (by omega)]
  · unfold val; rw [if_neg (by omega), Nat.add_comm, Nat.pow_add]
    exact Nat.mul_le_mul_right _ (by omega)
  · unfold val
    have : r / 4503599627370496 - 1 + 52 + 1 = 53 + (r / 4503599627370496 - 1) := by omega
    rw [if_neg (by omega), this, Nat.pow_add]
    exact Nat.mul_lt_mul_of_pos_right (by omega) (Nat.two_pow_pos _)

/-- A number that a float64 has is written as it is. -/
theorem near_exact (s : Bool) (m a r : Nat) (h : m * 2 ^ a = val r) (hr : r < 9218868437227405312) : double.nearest s m (-1074 + (a : Int)) = double.word s r := by
  by_cases hm : m = 0
  · subst hm
    have h0 : r = 0 := by
      by_cases h0 : r = 0
      · exact h0
      · have := val_lt (r := 0) (q := r) (by omega)
        rw [val_zero] at this
        omega
    rw [near_zero, h0]
  · obtain ⟨b1, b2⟩ := log_bounds m a hm
    by_cases hl : a + m.log2 < 52
    · rw [near_low s m a hm hl, h]
      have : val r < 4503599627370496 := by
        rw [← h]
        exact Nat.lt_of_lt_of_le b2 (Nat.pow_le_pow_right (by omega) (by omega : a + m.log2 + 1 ≤ 52))
      have hr' : r < 4503599627370496 := by
        by_cases c : r < 4503599627370496
        · exact c
        · obtain ⟨M, k, q1, q2, q3, q4, q5, q6⟩ := val_high r (by omega)
          have : 2 ^ 52 ≤ 2 ^ (k + 52) := Nat.pow_le_pow_right (by omega) (by omega)
          omega
      have : val r = r := by unfold val; rw [if_pos hr']
      rw [this, Nat.min_eq_left (by omega)]
    · have hl' : 52 ≤ a + m.log2 := by omega
      rw [near_high s m a hm hl']
      have hr' : 4503599627370496 ≤ r := by
        by_cases c : r < 4503599627370496
        · have e : val r = r := by unfold val; rw [if_pos c]
          have : 2 ^ 52 ≤ 2 ^ (a + m.log2) := Nat.pow_le_pow_right (by omega) hl'
          omega
        · omega
      obtain ⟨M, k, q1, q2, q3, q4, q5, q6⟩ := val_high r hr'
      rw [h] at b1 b2
      have ek : a + m.log2 = k + 52 := pow_between b1 b2 q5 q6
      have ek' : a + m.log2 - 52 = k := by omega
      rw [ek', h, q1, rhe_mul _ _ (Nat.two_pow_pos k), ← q4, Nat.min_eq_left (by omega)]

/-- A number from one half on is not written below one half. -/
theorem near_half (s : Bool) (m a : Nat) (h : 2 ^ 1073 ≤ m * 2 ^ a) : ∃ r, double.nearest s m (-1074 + (a : Int)) = double.word s r ∧ 4602678819172646912 ≤ r ∧ r ≤ 9218868437227405312 := by
  have hm : m ≠ 0 := by
    rintro rfl
    rw [Nat.zero_mul] at h
    have := Nat.two_pow_pos 1073
    omega
  obtain ⟨b1, b2⟩ := log_bounds m a hm
  have hl : 1073 < a + m.log2 + 1 := (Nat.pow_lt_pow_iff_right (by omega : 1 < 2)).1 (Nat.lt_of_le_of_lt h b2)
  rw [near_high s m a hm (by omega)]
  refine ⟨_, rfl, ?_, by omega⟩
  obtain ⟨k, hk⟩ : ∃ k, a + m.log2 = k + 52 := ⟨a + m.log2 - 52, by omega⟩
  have ek : a + m.log2 - 52 = k := by omega
  rw [ek]
  have : 4503599627370496 ≤ rhe (m * 2 ^ a) (2 ^ k) := by
    unfold rhe
    have : 4503599627370496 ≤ m * 2 ^ a / 2 ^ k := by
      rw [Nat.le_div_iff_mul_le (Nat.two_pow_pos k)]
      rw [hk, Nat.pow_add, Nat.mul_comm] at b1
      exact b1
    omega
  have hk2 : 1021 ≤ k := by omega
  omega

/-- Numbers of few digits are among the float64s. -/
theorem has_rung (M k : Nat) (hM : M < 9007199254740992) (hk : k < 2046) : ∃ r, val r = M * 2 ^ k ∧ r < 9218868437227405312 := by
  by_cases h0 : M = 0
  · exact ⟨0, by rw [h0, Nat.zero_mul]; rfl, by omega⟩
  · by_cases hl : k + M.log2 < 52
    · have b := (log_bounds M k h0).2
      have : M * 2 ^ k < 4503599627370496 := Nat.lt_of_lt_of_le b (Nat.pow_le_pow_right (by omega) (by omega : k + M.log2 + 1 ≤ 52))
      exact ⟨M * 2 ^ k, by unfold val; rw [if_pos this], by omega⟩
    · have hL : M.log2 ≤ 52 := by
        have : M.log2 < 53 := (Nat.log2_lt h0).2 (by omega)
        omega
      obtain ⟨c, hc⟩ : ∃ c, k = (52 - M.log2) + c := ⟨k + M.log2 - 52, by omega⟩
      have b := log_bounds M (52 - M.log2) h0
      have b1 : 52 - M.log2 + M.log2 = 52 := by omega
      rw [b1] at b
      obtain ⟨N, hN⟩ : ∃ N, N = M * 2 ^ (52 - M.log2) := ⟨_, rfl⟩
      rw [← hN] at b
      have n1 : 4503599627370496 ≤ N := b.1
      have n2 : N < 9007199254740992 := b.2
      refine ⟨c * 4503599627370496 + N, ?_, by omega⟩
      have d1 : (c * 4503599627370496 + N) / 4503599627370496 = c + 1 := by omega
      have d2 : (c * 4503599627370496 + N) % 4503599627370496 = N - 4503599627370496 := by omega
      unfold val
      rw [if_neg (by omega), d1, d2]
      have d3 : 4503599627370496 + (N - 4503599627370496) = N := by omega
      rw [d3, hN, hc, Nat.pow_add, Nat.add_sub_cancel, Nat.mul_assoc]
end Go.Proofs.Ytfjkchkcgnjkaaa.Flt
