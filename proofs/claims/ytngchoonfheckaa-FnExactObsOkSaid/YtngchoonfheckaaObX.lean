/- Whole numbers as float64: their products and quotients that are whole are exact. -/
import Derived.Test.YtngchoonfheckaaNearD
namespace Go.Proofs.Ytngchoonfheckaa.Flt
open Ieee

theorem read_full (x : Nat) (h1 : 4503599627370496 ≤ rng x) (h2 : rng x < 9218868437227405312) : ∃ M k, double.read x = .number (sgn x) M (-1074 + ((k : Nat) : Int)) ∧ 4503599627370496 ≤ M ∧ M < 9007199254740992 ∧ k = rng x / 4503599627370496 - 1 ∧ val (rng x) = M * 2 ^ k := by
  refine ⟨4503599627370496 + rng x % 4503599627370496, rng x / 4503599627370496 - 1, ?_, by omega, by omega, rfl, ?_⟩
  · rw [read_eq, if_neg (by omega), if_pos h2]
  · unfold val; rw [if_neg (by omega)]
theorem log52 (M : Nat) (h1 : 4503599627370496 ≤ M) (h2 : M < 9007199254740992) : M.log2 = 52 := by
  have hm : M ≠ 0 := by omega
  refine pow_between (Nat.log2_self_le hm) Nat.lt_log2_self ?_ ?_
  · exact h1
  · exact h2
theorem U_pow : ∃ c, c = 1074 ∧ U = 2 ^ c := ⟨1074, rfl, U_eq⟩
theorem below_one : val 4607182418800017407 < U := by decide +kernel
theorem above_top : 1000000000000000 * U < val 4831355200913801217 := by decide +kernel
theorem rng_of (r n : Nat) (h : val r = n * U) (h1 : 1 ≤ n) (h2 : n ≤ 1000000000000000) : 4607182418800017408 ≤ r ∧ r ≤ 4831355200913801216 := by
  have hU := U_pos
  have b1 := below_one
  have b2 := above_top
  have n1 : 1 * U ≤ n * U := Nat.mul_le_mul_right _ h1
  have n2 : n * U ≤ 1000000000000000 * U := Nat.mul_le_mul_right _ h2
  constructor
  · by_cases c : r ≤ 4607182418800017407
    · have := val_mono c
      omega
    · omega
  · by_cases c : 4831355200913801217 ≤ r
    · have := val_mono c
      omega
    · omega

def fi (n : Int) : Nat := floatOfInt .f64 n
theorem fi_word (n : Nat) (h : n < 9007199254740992) : ∃ r, fi (n : Int) = double.word false r ∧ val r = n * U ∧ r < 9218868437227405312 := by
  obtain ⟨r, h1, h2, h3⟩ := whole false n h
  refine ⟨r, ?_, h2, h3⟩
  rw [← h1]
  rfl
theorem fi_rng (n : Nat) (h1 : 1 ≤ n) (h2 : n ≤ 1000000000000000) : ∃ r, fi (n : Int) = double.word false r ∧ rng (fi (n : Int)) = r ∧ sgn (fi (n : Int)) = false ∧ val r = n * U ∧ 4607182418800017408 ≤ r ∧ r ≤ 4831355200913801216 := by
  obtain ⟨r, e1, e2, e3⟩ := fi_word n (by omega)
  obtain ⟨s1, s2, s3⟩ := sgn_word false r (by omega)
  obtain ⟨g1, g2⟩ := rng_of r n e2 h1 h2
  exact ⟨r, e1, by rw [e1]; exact s2, by rw [e1]; exact s1, e2, g1, g2⟩

theorem mul_exact (n t : Nat) (n1 : 1 ≤ n) (t1 : 1 ≤ t) (nt : n * t ≤ 1000000000000000) : double.mul (fi (n : Int)) (fi (t : Int)) = some (fi ((n * t : Nat) : Int)) := by
  have n2 : n ≤ 1000000000000000 := Nat.le_trans (Nat.le_mul_of_pos_right n t1) nt
  have t2 : t ≤ 1000000000000000 := Nat.le_trans (Nat.le_mul_of_pos_left t n1) nt
  obtain ⟨rx, ex, rx1, sx, vx, gx1, gx2⟩ := fi_rng n n1 n2
  obtain ⟨ry, ey, ry1, sy, vy, gy1, gy2⟩ := fi_rng t t1 t2
  obtain ⟨rz, ez, vz, gz⟩ := fi_word (n * t) (by omega)
  obtain ⟨M, k, e1, m1, m2, hk1, v1⟩ := read_full (fi (n : Int)) (by omega) (by omega)
  obtain ⟨N, j, e2, n1', n2', hj1, v2⟩ := read_full (fi (t : Int)) (by omega) (by omega)
  obtain ⟨a, ha⟩ : ∃ a, k + j = a + 1074 := ⟨k + j - 1074, by omega⟩
  have ep : (-1074 + (k : Int)) + (-1074 + (j : Int)) = -1074 + (a : Int) := by omega
  have ev : M * N * 2 ^ a = val rz := by
    obtain ⟨c, hc, hU⟩ := U_pow
    have ha' : a + c = k + j := by omega
    have hUp : 0 < U := U_pos
    refine Nat.eq_of_mul_eq_mul_right hUp ?_
    have l : M * N * 2 ^ a * U = val (rng (fi (n : Int))) * val (rng (fi (t : Int))) := by
      rw [v1, v2, hU, Nat.mul_assoc (M * N), ← Nat.pow_add, ha', Nat.pow_add]
      simp only [Nat.mul_assoc, Nat.mul_left_comm]
    rw [l, rx1, ry1, vx, vy, vz]
    simp only [Nat.mul_assoc, Nat.mul_left_comm]
  show ((double.read (fi (n : Int))).product (double.read (fi (t : Int)))).map double.write = _
  rw [e1, e2, sx, sy]
  show some (double.nearest (false ^^ false) (M * N) ((-1074 + (k : Int)) + (-1074 + (j : Int)))) = _
  rw [ep, ez, near_exact _ _ _ _ ev gz]
  rfl

theorem div_exact (n t : Nat) (n1 : 1 ≤ n) (t1 : 1 ≤ t) (nt : n * t ≤ 1000000000000000) : double.div (fi ((n * t : Nat) : Int)) (fi (t : Int)) = some (fi (n : Int)) := by
  have n2 : n ≤ 1000000000000000 := Nat.le_trans (Nat.le_mul_of_pos_right n t1) nt
  have t2 : t ≤ 1000000000000000 := Nat.le_trans (Nat.le_mul_of_pos_left t n1) nt
  obtain ⟨rx, ex, rx1, sx, vx, gx1, gx2⟩ := fi_rng (n * t) (Nat.mul_pos n1 t1) nt
  obtain ⟨ry, ey, ry1, sy, vy, gy1, gy2⟩ := fi_rng t t1 t2
  obtain ⟨rz, ez, vz, gz⟩ := fi_word n (by omega)
  obtain ⟨M, k, e1, m1, m2, hk1, v1⟩ := read_full (fi ((n * t : Nat) : Int)) (by omega) (by omega)
  obtain ⟨N, j, e2, n1', n2', hj1, v2⟩ := read_full (fi (t : Int)) (by omega) (by omega)
  have hUp : 0 < U := U_pos
  have hMN : M * 2 ^ k = n * (N * 2 ^ j) := by
    rw [← v1, ← v2, rx1, ry1, vx, vy, Nat.mul_assoc]
  have hjk : j ≤ k := by
    have h1 : val (rng (fi (t : Int))) ≤ val (rng (fi ((n * t : Nat) : Int))) := by
      rw [rx1, ry1, vx, vy]
      exact Nat.mul_le_mul_right _ (Nat.le_mul_of_pos_left t n1)
    have h2 : rng (fi (t : Int)) ≤ rng (fi ((n * t : Nat) : Int)) := by
      by_cases c : rng (fi (t : Int)) ≤ rng (fi ((n * t : Nat) : Int))
      · exact c
      · have := val_lt (by omega : rng (fi ((n * t : Nat) : Int)) < rng (fi (t : Int)))
        omega
    omega
  obtain ⟨d, hd⟩ : ∃ d, k = j + d := ⟨k - j, by omega⟩
  have hn : M * 2 ^ d = n * N := by
    have p : 0 < 2 ^ j := Nat.two_pow_pos j
    refine Nat.eq_of_mul_eq_mul_right p ?_
    rw [hd, Nat.pow_add] at hMN
    have e : M * 2 ^ d * 2 ^ j = M * (2 ^ j * 2 ^ d) := by rw [Nat.mul_assoc, Nat.mul_comm (2 ^ d)]
    rw [e, hMN]
    simp only [Nat.mul_assoc]
  have d54 : d ≤ 54 := by
    by_cases c : d ≤ 54
    · exact c
    · have h1 : 2 ^ 55 ≤ 2 ^ d := Nat.pow_le_pow_right (by decide) (by omega)
      have h2 : 4503599627370496 * 2 ^ 55 ≤ M * 2 ^ d := Nat.mul_le_mul m1 h1
      have h3 : n * N ≤ 1000000000000000 * 9007199254740992 := Nat.mul_le_mul n2 (by omega)
      omega
  obtain ⟨c54, hc⟩ : ∃ c, d + c = 54 := ⟨54 - d, by omega⟩
  have hD : M <<< 54 = n * 2 ^ c54 * N := by
    rw [Nat.shiftLeft_eq, ← hc, Nat.pow_add, ← Nat.mul_assoc, hn, Nat.mul_assoc, Nat.mul_comm N, ← Nat.mul_assoc]
  have hdiv : (M <<< 54) / N = n * 2 ^ c54 := by rw [hD]; exact Nat.mul_div_cancel _ (by omega)
  have hmod : (M <<< 54) % N = 0 := by rw [hD]; exact Nat.mul_mod_left _ _
  obtain ⟨a, ha⟩ : ∃ a, a + j = 1019 + k := ⟨1019 + k - j, by omega⟩
  have ep : (-1074 + (k : Int)) - (-1074 + (j : Int)) - ((54 : Nat) : Int) - 1 = -1074 + (a : Int) := by omega
  have ev : (2 * (n * 2 ^ c54)) * 2 ^ a = val rz := by
    obtain ⟨c, hcc, hU⟩ := U_pow
    have hs : 1 + c54 + a = c := by omega
    rw [vz, hU, ← hs, Nat.pow_add, Nat.pow_add]
    simp only [Nat.pow_one, Nat.mul_assoc, Nat.mul_left_comm]
  show ((double.read (fi ((n * t : Nat) : Int))).quotient (52 + 2) (double.read (fi (t : Int)))).map double.write = _
  rw [e1, e2, sx, sy]
  have lm := log52 M m1 m2
  have ln := log52 N n1' n2'
  simp only [Datum.quotient]
  rw [if_neg (by omega), lm, ln]
  show some (double.nearest (false ^^ false) (2 * ((M <<< 54) / N) + ((M <<< 54) % N != 0).toNat) ((-1074 + (k : Int)) - (-1074 + (j : Int)) - ((54 : Nat) : Int) - 1)) = _
  rw [hdiv, hmod, ep, ez]
  show some (double.nearest (false ^^ false) (2 * (n * 2 ^ c54)) (-1074 + (a : Int))) = _
  rw [near_exact _ _ _ _ ev gz]
  rfl

theorem near_fi (n : Int) (h : n.natAbs ≤ 1000000000000000) : near (fi n) = n := by
  obtain ⟨_, e, _⟩ := fl_num n (by omega)
  have hU : (0 : Int) < (U : Int) := by have := U_pos; omega
  have e : num (fi n) = n * (U : Int) := e
  rw [near_of, e, Int.mul_ediv_cancel _ (by omega), Int.mul_emod_left]
  simp
  omega
end Go.Proofs.Ytngchoonfheckaa.Flt
