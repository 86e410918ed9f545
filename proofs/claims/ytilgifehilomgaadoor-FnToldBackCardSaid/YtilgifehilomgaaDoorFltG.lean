/- A whole number of at most 1e15, parted by a power of ten and taken by it again: nearest to what comes out is the number itself. -/
import Derived.Test.YtilgifehilomgaaDoorFltF
namespace Go.Proofs.YtilgifehilomgaaDoor.Flt
open Ieee

theorem below_one : val 4607182418800017407 < U := by decide +kernel
theorem above_top : 1000000000000000 * U < val 4831355200913801217 := by decide +kernel
theorem at_low : 2097152 * val 4512606826625236992 = U := by decide +kernel
theorem at_high : val 4953959590107545600 = 151115727451828646838272 * U := by decide +kernel

theorem rng_of (r n : Nat) (h : val r = n * U) (h1 : 1 ≤ n) (h2 : n ≤ 1000000000000000) : 4607182418800017408 ≤ r ∧ r ≤ 4831355200913801216 := by
  have hU := U_pos
  have b1 := below_one
  have b2 := above_top
  have n1 : 1 * U ≤ n * U := Nat.mul_le_mul_right _ h1
  have n2 : n * U ≤ 1000000000000000 * U := Nat.mul_le_mul_right _ h2
  constructor
  · by_cases c : r ≤ 4607182418800017407
    · have := val_mono c
      omega
    · omega
  · by_cases c : 4831355200913801217 ≤ r
    · have := val_mono c
      omega
    · omega

theorem rhe_is (v n : Nat) (h1 : 2 * v < (2 * n + 1) * U) (h2 : 2 * n * U < 2 * v + U) : rhe v U = n := by
  have hU := U_pos
  obtain ⟨o1, o2⟩ := rhe_off v U hU
  generalize rhe v U = q at *
  have a : q < n + 1 := by
    have : q * U < (n + 1) * U := by
      rw [Nat.add_mul] at h1 ⊢
      rw [Nat.mul_assoc] at h1
      omega
    exact Nat.lt_of_mul_lt_mul_right this
  have b : n < q + 1 := by
    have : n * U < (q + 1) * U := by
      rw [Nat.add_mul]
      rw [Nat.mul_assoc] at h2
      omega
    exact Nat.lt_of_mul_lt_mul_right this
  omega

/-- x = s n, y = t: (x / y) * y lies within a half of n. -/
theorem back_pos (x y n t : Nat) (hx : rng x < 9218868437227405312) (hy : rng y < 9218868437227405312) (vx : val (rng x) = n * U) (vy : val (rng y) = t * U) (n1 : 1 ≤ n) (n2 : n ≤ 1000000000000000) (t1 : 1 ≤ t) (t2 : t ≤ 1000000) :
    ∃ q r, double.div x y = some q ∧ rng q < 9218868437227405312 ∧ double.mul q y = some (double.word ((sgn x ^^ sgn y) ^^ sgn y) r) ∧ r < 9218868437227405312 ∧ 2 * val r < (2 * n + 1) * U ∧ 2 * n * U < 2 * val r + U := by
  have hU := U_pos
  obtain ⟨x1, x2⟩ := rng_of _ n vx n1 n2
  obtain ⟨y1, y2⟩ := rng_of _ t vy t1 (by omega)
  obtain ⟨r1, e1, l1, a1, a2⟩ := div_off x y (by omega) hx (by omega) hy (by omega) (by omega)
  rw [vx, vy] at a1 a2
  have c1 : 162259276829213363391578010288128 * (val r1 * t) ≤ 9007199254740993 * 18014398509481985 * (n * U) := by
    refine Nat.le_of_mul_le_mul_right (c := U) ?_ hU
    rw [Nat.mul_assoc, Nat.mul_assoc (val r1), Nat.mul_assoc (9007199254740993 * 18014398509481985)]
    exact a1
  have c2 : 9007199254740991 * 18014398509481983 * (n * U) ≤ 162259276829213363391578010288128 * (val r1 * t) := by
    refine Nat.le_of_mul_le_mul_right (c := U) ?_ hU
    rw [Nat.mul_assoc 162259276829213363391578010288128, Nat.mul_assoc (val r1), Nat.mul_assoc (9007199254740991 * 18014398509481983)]
    exact a2
  have nu1 : 1 * U ≤ n * U := Nat.mul_le_mul_right _ n1
  have nu2 : n * U ≤ 1000000000000000 * U := Nat.mul_le_mul_right _ n2
  have vt1 : val r1 * 1 ≤ val r1 * t := Nat.mul_le_mul_left _ t1
  have vt2 : val r1 * t ≤ val r1 * 1000000 := Nat.mul_le_mul_left _ t2
  have lo := at_low
  have hi := at_high
  have rl : 4512606826625236992 ≤ r1 := by
    by_cases c : r1 ≤ 4512606826625236992
    · have := val_mono c
      omega
    · omega
  have rh : r1 ≤ 4953959590107545600 := by
    by_cases c : 4953959590107545600 ≤ r1
    · have := val_mono c
      omega
    · omega
  obtain ⟨s1, s2, s3⟩ := sgn_word (sgn x ^^ sgn y) r1 (by omega)
  obtain ⟨r2, e2, l2, b1, b2⟩ := mul_off (double.word (sgn x ^^ sgn y) r1) y (by omega) (by omega) (by omega) hy (by omega) (by omega)
  rw [s1] at e2
  rw [s2, vy] at b1 b2
  have d1 : 9007199254740992 * val r2 ≤ 9007199254740993 * (val r1 * t) := by
    refine Nat.le_of_mul_le_mul_right (c := U) ?_ hU
    rw [Nat.mul_assoc, Nat.mul_assoc 9007199254740993, Nat.mul_assoc (val r1)]
    exact b1
  have d2 : 9007199254740991 * (val r1 * t) ≤ 9007199254740992 * val r2 := by
    refine Nat.le_of_mul_le_mul_right (c := U) ?_ hU
    rw [Nat.mul_assoc, Nat.mul_assoc 9007199254740992, Nat.mul_assoc (val r1)]
    exact b2
  refine ⟨_, r2, e1, by rw [s2]; exact l1, e2, l2, ?_, ?_⟩
  · rw [Nat.add_mul, Nat.mul_assoc]
    clear e1 e2 a1 a2 b1 b2 lo hi s1 s2 s3
    generalize val r1 * t = A at *
    generalize n * U = E at *
    omega
  · rw [Nat.mul_assoc]
    clear e1 e2 a1 a2 b1 b2 lo hi s1 s2 s3
    generalize val r1 * t = A at *
    generalize n * U = E at *
    omega
end Go.Proofs.YtilgifehilomgaaDoor.Flt
