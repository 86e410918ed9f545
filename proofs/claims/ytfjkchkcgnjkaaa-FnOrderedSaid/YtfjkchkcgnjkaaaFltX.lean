/- The whole number below a float64 of at most 1e15, what is left, and the nearest whole number. -/
import Derived.Test.YtfjkchkcgnjkaaaFltW
namespace Go.Proofs.Ytfjkchkcgnjkaaa.Flt
open Ieee

/-- The number of a float64, in units of the least one, with its sign. -/
def num (x : Nat) : Int := sg (sgn x) (val (rng x))

theorem num_word (s : Bool) (r : Nat) (h : r < 9218868437227405312) : num (double.word s r) = sg s (val r) := by
  obtain ⟨h1, h2, _⟩ := sgn_word s r (by omega)
  unfold num
  rw [h1, h2]

theorem num_cases (x : Nat) : sgn x = false ∧ num x = (val (rng x) : Int) ∨ sgn x = true ∧ num x = -(val (rng x) : Int) := by
  unfold num sg
  cases sgn x
  · exact Or.inl ⟨rfl, rfl⟩
  · exact Or.inr ⟨rfl, rfl⟩

theorem ord_num (x y : Nat) (hx : rng x ≤ 9218868437227405312) (hy : rng y ≤ 9218868437227405312) : double.order x y = some (compare (num x) (num y)) := by
  rw [order_key x y hx hy]
  unfold num key
  rw [cmp_sg]

theorem fl_num (n : Int) (h : n.natAbs < 9007199254740992) : rng (floatOfInt .f64 n) < 9218868437227405312 ∧ num (floatOfInt .f64 n) = n * (U : Int) ∧ floatOfInt .f64 n < 18446744073709551616 := by
  have e : floatOfInt .f64 n = double.nearest (decide (n < 0)) n.natAbs 0 := rfl
  obtain ⟨r, h1, h2, h3⟩ := whole (decide (n < 0)) n.natAbs h
  rw [e, h1]
  obtain ⟨g1, g2, g3⟩ := sgn_word (decide (n < 0)) r (by omega)
  refine ⟨by rw [g2]; exact h3, ?_, g3⟩
  rw [num_word _ _ h3, h2]
  unfold sg
  by_cases hn : n < 0
  · have : n = -(n.natAbs : Int) := by omega
    simp only [hn, decide_true, if_true]
    conv => rhs; rw [this]
    rw [Int.neg_mul]
    simp
  · have : n = (n.natAbs : Int) := by omega
    simp only [hn, decide_false]
    conv => rhs; rw [this]
    simp

theorem val_mono {r q : Nat} (h : r ≤ q) : val r ≤ val q := by
  by_cases e : r = q
  · rw [e]; exact Nat.le_refl _
  · exact Nat.le_of_lt (val_lt (by omega))

theorem top (x : Nat) (h : rng x ≤ 4831355200913801216) : val (rng x) ≤ 1000000000000000 * U := by
  rw [← val_top]
  exact val_mono h

theorem q_le (x : Nat) (h : rng x ≤ 4831355200913801216) : val (rng x) / U ≤ 1000000000000000 := by
  have := top x h
  have hU := U_pos
  calc val (rng x) / U ≤ 1000000000000000 * U / U := Nat.div_le_div_right this
    _ = 1000000000000000 := Nat.mul_div_cancel _ hU

theorem toInt_val (x : Nat) (h : rng x ≤ 4831355200913801216) : floatToIntVal .f64 x .i64 = some (sg (sgn x) (val (rng x) / U)) := by
  unfold floatToIntVal
  have e : FloatKind.f64.decode x = double.read x := rfl
  have := q_le x h
  rw [e, toInt_zero x (by omega)]
  have m1 : IntKind.i64.min = -9223372036854775808 := by decide
  have m2 : IntKind.i64.max = 9223372036854775807 := by decide
  dsimp only
  generalize val (rng x) / U = q at *
  rw [m1, m2, if_pos]
  unfold sg
  split <;> omega

/-- What is left is written so that its half is seen. -/
theorem rest (x : Nat) (h : rng x ≤ 4831355200913801216) (n : Int) (hn : n = num x / (U : Int)) (hb : n.natAbs < 9007199254740992) :
    ∃ z c, double.sub x (floatOfInt .f64 n) = some z ∧ double.order z 4602678819172646912 = some c ∧ z < 18446744073709551616 ∧
      ((c = .gt ∨ c = .eq ∧ n % 2 ≠ 0) ↔ ((U : Int) < 2 * (num x % (U : Int)) ∨ (U : Int) = 2 * (num x % (U : Int)) ∧ n % 2 ≠ 0)) := by
  have hU := U_pos
  have hx : rng x < 9218868437227405312 := by omega
  obtain ⟨f1, f2, f3⟩ := fl_num n hb
  obtain ⟨t, m, a, g1, g2, g3⟩ := sub_form x _ hx f1
  change m * 2 ^ a = (num x - num (floatOfInt .f64 n)).natAbs at g2
  change 0 < num x - num (floatOfInt .f64 n) → t = false at g3
  obtain ⟨D, hD⟩ : ∃ D, D = num x % (U : Int) := ⟨_, rfl⟩
  have hD0 : 0 ≤ D := by rw [hD]; exact Int.emod_nonneg _ (by omega)
  have hD1 : D < (U : Int) := by rw [hD]; exact Int.emod_lt_of_pos _ (by omega)
  have hsum : num x - num (floatOfInt .f64 n) = D := by
    rw [f2, hD, hn]
    have := Int.emod_def (num x) (U : Int)
    rw [this, Int.mul_comm]
  rw [hsum] at g2 g3
  rw [← hD]
  have hh : val 4602678819172646912 * 2 = U := by have := val_half; omega
  have nh : num 4602678819172646912 = (val 4602678819172646912 : Int) := by
    have e1 : sgn 4602678819172646912 = false := by decide +kernel
    have e2 : rng 4602678819172646912 = 4602678819172646912 := by decide +kernel
    unfold num
    rw [e1, e2]
    rfl
  have rh : rng 4602678819172646912 ≤ 9218868437227405312 := by decide +kernel
  by_cases hex : ∃ r, val r = D.natAbs ∧ r < 9218868437227405312
  · obtain ⟨r, r1, r2⟩ := hex
    have e := near_exact t m a r (by rw [g2, r1]) r2
    rw [e] at g1
    obtain ⟨w1, w2, w3⟩ := sgn_word t r (by omega)
    have nz : num (double.word t r) = D := by
      rw [num_word t r r2, r1]
      by_cases hp : 0 < D
      · rw [g3 hp]; unfold sg; simp; omega
      · have : D = 0 := by omega
        rw [this]; unfold sg; cases t <;> rfl
    refine ⟨_, _, g1, ord_num _ _ (by rw [w2]; omega) rh, w3, ?_⟩
    rw [nz, nh]
    by_cases c1 : D < (val 4602678819172646912 : Int)
    · rw [c_lt c1]
      have : ¬ ((U : Int) < 2 * D ∨ (U : Int) = 2 * D ∧ n % 2 ≠ 0) := by omega
      simp [this]
    · by_cases c2 : D = (val 4602678819172646912 : Int)
      · rw [c_eq c2]
        have : (U : Int) = 2 * D := by omega
        have h3 : ¬ (U : Int) < 2 * D := by omega
        simp [this]
      · rw [c_gt (by omega)]
        have : (U : Int) < 2 * D := by omega
        simp [this]
  · -- only between -1/2 and 0
    have hV : 2 * val (rng x) < U := by
      by_cases c : 2 * val (rng x) < U
      · exact c
      · exfalso
        apply hex
        have hr2 : 4602678819172646912 ≤ rng x := by
          by_cases c3 : 4602678819172646912 ≤ rng x
          · exact c3
          · have := val_lt (r := rng x) (q := 4602678819172646912) (by omega)
            omega
        have hr : 4503599627370496 ≤ rng x := by omega
        obtain ⟨M, k, q1, q2, q3, q4, q5, q6⟩ := val_high (rng x) hr
        have k1 : 1021 ≤ k := by omega
        have k2 : k ≤ 1074 := by omega
        have eUn : U = 2 ^ (1074 - k) * 2 ^ k := by
          rw [U_eq, ← Nat.pow_add]
          have : 1074 - k + k = 1074 := by omega
          rw [this]
        have eU : (U : Int) = 2 ^ (1074 - k) * 2 ^ k := by
          rw [eUn, Int.natCast_mul, Int.natCast_pow, Int.natCast_pow]
          rfl
        have eD : D = (sg (sgn x) M - n * 2 ^ (1074 - k)) * 2 ^ k := by
          rw [← hsum, f2, eU, Int.sub_mul, ← sg_mul]
          unfold num
          rw [q1, Int.mul_assoc]
        obtain ⟨D', hD'⟩ : ∃ D', D' = sg (sgn x) M - n * 2 ^ (1074 - k) := ⟨_, rfl⟩
        rw [← hD'] at eD
        have pk : (0 : Int) < 2 ^ k := Int.pow_pos (by omega)
        have d0 : 0 ≤ D' := by
          by_cases c4 : 0 ≤ D'
          · exact c4
          · have := Int.mul_lt_mul_of_pos_right (by omega : D' < 0) pk
            omega
        have d1 : D' < 2 ^ (1074 - k) := by
          rw [eD, eU] at hD1
          exact Int.lt_of_mul_lt_mul_right hD1 (Int.le_of_lt pk)
        have d2 : (2 : Int) ^ (1074 - k) ≤ 2 ^ 53 := by
          exact_mod_cast Nat.pow_le_pow_right (by omega : 0 < 2) (by omega : 1074 - k ≤ 53)
        obtain ⟨r, r1, r2⟩ := has_rung D'.natAbs k (by omega) (by omega)
        refine ⟨r, ?_, r2⟩
        rw [r1, eD, Int.natAbs_mul]
        congr 1
    have hneg : num x < 0 := by
      by_cases c : num x < 0
      · exact c
      · exfalso
        apply hex
        refine ⟨rng x, ?_, hx⟩
        have e0 : num x = (val (rng x) : Int) := by
          rcases num_cases x with ⟨_, h1⟩ | ⟨_, h1⟩ <;> omega
        have : D = (val (rng x) : Int) := by
          rw [hD, e0]
          exact Int.emod_eq_of_lt (by omega) (by omega)
        omega
    have e1 : num x = -(val (rng x) : Int) := by
      rcases num_cases x with ⟨_, h1⟩ | ⟨_, h1⟩ <;> omega
    have en : n = -1 := by
      rw [hn, e1]
      have hv : 0 < val (rng x) := by omega
      have := (Int.ediv_emod_unique (a := -(val (rng x) : Int)) (b := (U : Int)) (q := -1) (r := (U : Int) - val (rng x)) (by omega)).2 ⟨by omega, by omega, by omega⟩
      exact this.1
    have eD : D = (U : Int) - val (rng x) := by
      rw [← hsum, f2, en, e1]
      omega
    have big : 2 ^ 1073 ≤ m * 2 ^ a := by
      rw [g2]
      have : U = 2 ^ 1073 * 2 := by decide +kernel
      omega
    obtain ⟨r, n1, n2, n3⟩ := near_half t m a big
    rw [n1] at g1
    have ht : t = false := g3 (by omega)
    subst ht
    obtain ⟨w1, w2, w3⟩ := sgn_word false r (by omega)
    refine ⟨_, _, g1, order_key _ _ (by rw [w2]; omega) rh, w3, ?_⟩
    have k1 : key (double.word false r) = (r : Int) := by unfold key; rw [w1, w2]; rfl
    have k2 : key 4602678819172646912 = 4602678819172646912 := by decide +kernel
    rw [k1, k2, en]
    have R : (U : Int) < 2 * D ∨ (U : Int) = 2 * D ∧ (-1 : Int) % 2 ≠ 0 := by left; omega
    simp only [R, iff_true]
    by_cases c : r = 4602678819172646912
    · right
      exact ⟨c_eq (by omega), by decide⟩
    · left
      exact c_gt (by omega)
end Go.Proofs.Ytfjkchkcgnjkaaa.Flt
