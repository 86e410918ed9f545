/- A quotient's and a product's float64: how far off. -/
import Derived.Test.YtilgifehilomgaaDoorFltE
namespace Go.Proofs.YtilgifehilomgaaDoor.Flt
open Ieee

/-- A float64 with all its digits: its digits and its place. -/
theorem read_full (x : Nat) (h1 : 4503599627370496 ≤ rng x) (h2 : rng x < 9218868437227405312) : ∃ M k, double.read x = .number (sgn x) M (-1074 + ((k : Nat) : Int)) ∧ 4503599627370496 ≤ M ∧ M < 9007199254740992 ∧ k = rng x / 4503599627370496 - 1 ∧ val (rng x) = M * 2 ^ k := by
  refine ⟨4503599627370496 + rng x % 4503599627370496, rng x / 4503599627370496 - 1, ?_, by omega, by omega, rfl, ?_⟩
  · rw [read_eq, if_neg (by omega), if_pos h2]
  · unfold val; rw [if_neg (by omega)]

theorem log52 (M : Nat) (h1 : 4503599627370496 ≤ M) (h2 : M < 9007199254740992) : M.log2 = 52 := by
  have hm : M ≠ 0 := by omega
  refine pow_between (Nat.log2_self_le hm) Nat.lt_log2_self ?_ ?_
  · exact h1
  · exact h2

theorem log_ge (m e : Nat) (h : 2 ^ e ≤ m) : e ≤ m.log2 := by
  have h0 := Nat.two_pow_pos e
  exact (Nat.le_log2 (by omega)).2 h
theorem log_lt (m e : Nat) (hm : m ≠ 0) (h : m < 2 ^ e) : m.log2 < e := (Nat.log2_lt hm).2 h

theorem U_pow : ∃ c, c = 1074 ∧ U = 2 ^ c := ⟨1074, rfl, U_eq⟩

theorem mul_off (x y : Nat) (hx1 : 4503599627370496 ≤ rng x) (hx2 : rng x < 9218868437227405312) (hy1 : 4503599627370496 ≤ rng y) (hy2 : rng y < 9218868437227405312)
    (hk : 1076 ≤ rng x / 4503599627370496 + rng y / 4503599627370496) (hk2 : rng x / 4503599627370496 + rng y / 4503599627370496 < 2900) :
    ∃ r, double.mul x y = some (double.word (sgn x ^^ sgn y) r) ∧ r < 9218868437227405312 ∧ 9007199254740992 * (val r * U) ≤ 9007199254740993 * (val (rng x) * val (rng y)) ∧ 9007199254740991 * (val (rng x) * val (rng y)) ≤ 9007199254740992 * (val r * U) := by
  obtain ⟨M, k, e1, m1, m2, hk1, v1⟩ := read_full x hx1 hx2
  obtain ⟨N, j, e2, n1, n2, hj1, v2⟩ := read_full y hy1 hy2
  obtain ⟨a, ha⟩ : ∃ a, k + j = a + 1074 := ⟨k + j - 1074, by omega⟩
  have hMN : 4503599627370496 * 4503599627370496 ≤ M * N := Nat.mul_le_mul m1 n1
  have hMN2 : M * N < 9007199254740992 * 9007199254740992 := Nat.mul_lt_mul_of_lt_of_lt m2 n2
  have l1 : 104 ≤ (M * N).log2 := log_ge _ _ hMN
  have l2 : (M * N).log2 < 106 := log_lt _ _ (by omega) hMN2
  obtain ⟨r, er, hr, o1, o2⟩ := near_off (sgn x ^^ sgn y) (M * N) a (by omega) (by omega) (by omega)
  have ep : (-1074 + (k : Int)) + (-1074 + (j : Int)) = -1074 + (a : Int) := by omega
  have ev : M * N * 2 ^ a * U = val (rng x) * val (rng y) := by
    obtain ⟨c, hc, hU⟩ := U_pow
    have ha' : a + c = k + j := by omega
    rw [v1, v2, hU, Nat.mul_assoc (M * N), ← Nat.pow_add, ha', Nat.pow_add]
    simp only [Nat.mul_assoc, Nat.mul_left_comm]
  refine ⟨r, ?_, hr, ?_, ?_⟩
  · show ((double.read x).product (double.read y)).map double.write = _
    rw [e1, e2]
    show some (double.nearest (sgn x ^^ sgn y) (M * N) ((-1074 + (k : Int)) + (-1074 + (j : Int)))) = _
    rw [ep, er]
  · rw [← ev]
    have := Nat.mul_le_mul_right U o1
    rw [Nat.mul_assoc, Nat.mul_assoc 9007199254740993] at this
    exact this
  · rw [← ev]
    have := Nat.mul_le_mul_right U o2
    rw [Nat.mul_assoc, Nat.mul_assoc 9007199254740992] at this
    exact this

theorem quo_close (D N : Nat) (hN : 0 < N) : (2 * (D / N) + (D % N != 0).toNat) * N ≤ 2 * D + N ∧ 2 * D ≤ (2 * (D / N) + (D % N != 0).toNat) * N + N := by
  have e := Nat.div_add_mod D N
  have l := Nat.mod_lt D hN
  have e2 : 2 * (D / N) * N = 2 * (N * (D / N)) := by rw [Nat.mul_assoc, Nat.mul_comm (D / N)]
  rw [Nat.add_mul, e2]
  generalize N * (D / N) = q at *
  by_cases h : D % N = 0
  · rw [h] at e ⊢
    simp
    omega
  · have : (D % N != 0) = true := by simpa using h
    rw [this]
    show 2 * q + 1 * N ≤ _ ∧ _
    rw [Nat.one_mul]
    generalize D % N = d at *
    constructor
    · omega
    · show 2 * D ≤ 2 * q + 1 * N + N
      omega

theorem div_off (x y : Nat) (hx1 : 4503599627370496 ≤ rng x) (hx2 : rng x < 9218868437227405312) (hy1 : 4503599627370496 ≤ rng y) (hy2 : rng y < 9218868437227405312)
    (hk : rng y / 4503599627370496 ≤ rng x / 4503599627370496 + 1000) (hk2 : rng x / 4503599627370496 < 800 + rng y / 4503599627370496) :
    ∃ r, double.div x y = some (double.word (sgn x ^^ sgn y) r) ∧ r < 9218868437227405312 ∧
      162259276829213363391578010288128 * (val r * val (rng y)) ≤ 9007199254740993 * 18014398509481985 * (val (rng x) * U) ∧ 9007199254740991 * 18014398509481983 * (val (rng x) * U) ≤ 162259276829213363391578010288128 * (val r * val (rng y)) := by
  obtain ⟨M, k, e1, m1, m2, hk1, v1⟩ := read_full x hx1 hx2
  obtain ⟨N, j, e2, n1, n2, hj1, v2⟩ := read_full y hy1 hy2
  obtain ⟨a, ha⟩ : ∃ a, a + j = 1019 + k := ⟨1019 + k - j, by omega⟩
  obtain ⟨D, hD⟩ : ∃ D, D = M * 18014398509481984 := ⟨_, rfl⟩
  obtain ⟨Q, hQ⟩ : ∃ Q, Q = 2 * (D / N) + (D % N != 0).toNat := ⟨_, rfl⟩
  obtain ⟨c1, c2⟩ := quo_close D N (by omega)
  rw [← hQ] at c1 c2
  have q1 : 18014398509481984 ≤ Q := by
    have : 9007199254740992 ≤ D / N := (Nat.le_div_iff_mul_le (by omega)).2 (by omega)
    omega
  have q2 : Q < 144115188075855872 := by
    have : D / N < 36028797018963968 := (Nat.div_lt_iff_lt_mul (by omega)).2 (by omega)
    have : (D % N != 0).toNat ≤ 1 := by cases (D % N != 0) <;> decide
    omega
  have l1 : 54 ≤ Q.log2 := log_ge _ _ q1
  have l2 : Q.log2 < 57 := log_lt _ _ (by omega) q2
  obtain ⟨r, er, hr, o1, o2⟩ := near_off (sgn x ^^ sgn y) Q a (by omega) (by omega) (by omega)
  have ep : (-1074 + (k : Int)) - (-1074 + (j : Int)) - ((54 : Nat) : Int) - 1 = -1074 + (a : Int) := by omega
  obtain ⟨W, hW⟩ : ∃ W, W = 2 ^ (a + j) := ⟨_, rfl⟩
  have f1 : Q * 2 ^ a * val (rng y) = Q * N * W := by
    rw [v2, hW, Nat.pow_add]
    simp only [Nat.mul_assoc, Nat.mul_left_comm]
  have f2 : 2 * D * W = val (rng x) * U := by
    obtain ⟨c, hc, hU⟩ := U_pow
    have h55 : 2 * D = M * 2 ^ 55 := by rw [hD]; omega
    have hs : 55 + (a + j) = k + c := by omega
    rw [h55, hW, v1, hU, Nat.mul_assoc, ← Nat.pow_add, hs, Nat.pow_add, Nat.mul_assoc]
  have f3 : 18014398509481984 * (N * W) ≤ 2 * D * W := by
    rw [← Nat.mul_assoc]
    exact Nat.mul_le_mul_right _ (by omega)
  have g1 := Nat.mul_le_mul_right W c1
  have g2 := Nat.mul_le_mul_right W c2
  rw [Nat.add_mul] at g1 g2
  have h1 := Nat.mul_le_mul_right (val (rng y)) o1
  have h2 := Nat.mul_le_mul_right (val (rng y)) o2
  rw [Nat.mul_assoc, Nat.mul_assoc 9007199254740993, f1] at h1
  rw [Nat.mul_assoc, Nat.mul_assoc 9007199254740992, f1] at h2
  rw [f2] at g1 g2 f3
  refine ⟨r, ?_, hr, ?_, ?_⟩
  · show ((double.read x).quotient (52 + 2) (double.read y)).map double.write = _
    rw [e1, e2]
    have lm := log52 M m1 m2
    have ln := log52 N n1 n2
    have hD' : M <<< 54 = D := by rw [Nat.shiftLeft_eq, hD]
    simp only [Datum.quotient]
    rw [if_neg (by omega), lm, ln]
    show some (double.nearest (sgn x ^^ sgn y) (2 * ((M <<< 54) / N) + ((M <<< 54) % N != 0).toNat) ((-1074 + (k : Int)) - (-1074 + (j : Int)) - ((54 : Nat) : Int) - 1)) = _
    rw [hD', ← hQ, ep, er]
  · generalize val r * val (rng y) = A at *
    generalize Q * N * W = B at *
    generalize N * W = C at *
    generalize val (rng x) * U = E at *
    omega
  · generalize val r * val (rng y) = A at *
    generalize Q * N * W = B at *
    generalize N * W = C at *
    generalize val (rng x) * U = E at *
    omega
end Go.Proofs.YtilgifehilomgaaDoor.Flt
