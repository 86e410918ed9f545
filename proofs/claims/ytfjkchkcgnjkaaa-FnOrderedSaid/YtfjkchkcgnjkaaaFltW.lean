/- A float64 of at most 1e15 and the whole number nearest to it, found in two ways. -/
import Derived.Test.YtfjkchkcgnjkaaaFltN
namespace Go.Proofs.Ytfjkchkcgnjkaaa.Flt
open Ieee

theorem sgn_word (s : Bool) (r : Nat) (h : r < 9223372036854775808) : sgn (double.word s r) = s ∧ rng (double.word s r) = r ∧ double.word s r < 18446744073709551616 := by
  have e : double.signWeight = 9223372036854775808 := rfl
  unfold Format.word rng sgn
  rw [e]
  cases s
  · refine ⟨?_, by simp; omega, by simp; omega⟩
    have : r / 9223372036854775808 = 0 := by omega
    simp [this]
  · refine ⟨?_, by simp; omega, by simp; omega⟩
    have : (9223372036854775808 + r) / 9223372036854775808 = 1 := by omega
    simp [this]

def U : Nat := 2 ^ 1074
theorem U_eq : U = 2 ^ 1074 := by unfold U; exact Eq.refl _
theorem U_pos : 0 < U := by
  rw [U_eq]
  exact Nat.two_pow_pos 1074

theorem cut_args (m a : Nat) : (m <<< (-1074 + (a : Int)).toNat, (-(-1074 + (a : Int))).toNat) = (m * 2 ^ (a - 1074), 1074 - a) := by
  have e1 : (-1074 + (a : Int)).toNat = a - 1074 := by omega
  have e2 : (-(-1074 + (a : Int))).toNat = 1074 - a := by omega
  rw [e1, e2, Nat.shiftLeft_eq]

theorem div_args (m a : Nat) : m * 2 ^ (a - 1074) / 2 ^ (1074 - a) = m * 2 ^ a / 2 ^ 1074 := by
  by_cases h : a ≤ 1074
  · have e : 1074 = (1074 - a) + a := by omega
    have e1 : a - 1074 = 0 := by omega
    rw [e1, Nat.pow_zero, Nat.mul_one]
    conv => rhs; rw [e, Nat.pow_add]
    rw [Nat.mul_div_mul_right _ _ (Nat.two_pow_pos a)]
  · have e : a = (a - 1074) + 1074 := by omega
    have e1 : 1074 - a = 0 := by omega
    rw [e1, Nat.pow_zero, Nat.div_one]
    conv => rhs; rw [e, Nat.pow_add, ← Nat.mul_assoc]
    rw [Nat.mul_div_cancel _ (Nat.two_pow_pos 1074)]

theorem rhe_args (m a : Nat) : rhe (m * 2 ^ (a - 1074)) (2 ^ (1074 - a)) = rhe (m * 2 ^ a) (2 ^ 1074) := by
  by_cases h : a ≤ 1074
  · have e : 1074 = (1074 - a) + a := by omega
    have e1 : a - 1074 = 0 := by omega
    rw [e1, Nat.pow_zero, Nat.mul_one]
    conv => rhs; rw [e, Nat.pow_add]
    rw [rhe_scale _ _ _ (Nat.two_pow_pos a)]
  · have e : a = (a - 1074) + 1074 := by omega
    have e1 : 1074 - a = 0 := by omega
    rw [e1, Nat.pow_zero, rhe_one]
    conv => rhs; rw [e, Nat.pow_add, ← Nat.mul_assoc]
    rw [rhe_mul _ _ (Nat.two_pow_pos 1074)]

theorem toInt_zero (x : Nat) (h : rng x < 9218868437227405312) : (double.read x).toInt .zero = some (sg (sgn x) (val (rng x) / U)) := by
  obtain ⟨m, a, e, hv⟩ := read_fin x h
  rw [e, U_eq]
  unfold Datum.toInt Datum.integral
  have ca := cut_args m a
  simp only [Prod.mk.injEq] at ca
  dsimp only
  rw [ca.1, ca.2, cut_zero, div_args, hv, signed_eq, Nat.pow_zero, Nat.mul_one]

theorem integral_even (x : Nat) (h : rng x < 9218868437227405312) : (double.read x).integral .even = .number (sgn x) (rhe (val (rng x)) U) 0 := by
  obtain ⟨m, a, e, hv⟩ := read_fin x h
  rw [e, U_eq]
  unfold Datum.integral
  have ca := cut_args m a
  simp only [Prod.mk.injEq] at ca
  dsimp only
  rw [ca.1, ca.2, cut_even, rhe_args, hv]

/-- A whole number of at most 53 digits is a float64. -/
theorem whole (s : Bool) (N : Nat) (h : N < 9007199254740992) : ∃ r, double.nearest s N 0 = double.word s r ∧ val r = N * U ∧ r < 9218868437227405312 := by
  rw [U_eq]
  obtain ⟨r, h1, h2⟩ := has_rung N 1074 h (by omega)
  refine ⟨r, ?_, h1, h2⟩
  have e : (0 : Int) = -1074 + ((1074 : Nat) : Int) := by omega
  rw [e]
  exact near_exact s N 1074 r h1.symm h2

theorem sub_form (x y : Nat) (hx : rng x < 9218868437227405312) (hy : rng y < 9218868437227405312) :
    ∃ t m a, double.sub x y = some (double.nearest t m (-1074 + ((a : Nat) : Int))) ∧ m * 2 ^ a = (sg (sgn x) (val (rng x)) - sg (sgn y) (val (rng y))).natAbs ∧ (0 < sg (sgn x) (val (rng x)) - sg (sgn y) (val (rng y)) → t = false) := by
  obtain ⟨m, a, e, hv⟩ := read_fin x hx
  obtain ⟨n, b, e', hw⟩ := read_fin y hy
  have hop : (double.read y).opposite = .number (!sgn y) n (-1074 + (b : Int)) := by rw [e']; rfl
  unfold Format.sub
  rw [hop, e]
  unfold Datum.sum
  dsimp only
  obtain ⟨c, hc⟩ : ∃ c, c = min a b := ⟨_, rfl⟩
  have b1 : min (-1074 + (a : Int)) (-1074 + (b : Int)) = -1074 + (c : Int) := by omega
  rw [b1]
  have b2 : (-1074 + (a : Int) - (-1074 + (c : Int))).toNat = a - c := by omega
  have b3 : (-1074 + (b : Int) - (-1074 + (c : Int))).toNat = b - c := by omega
  rw [b2, b3, signed_eq, signed_eq]
  have ha : m * 2 ^ a = m * 2 ^ (a - c) * 2 ^ c := by rw [Nat.mul_assoc, ← Nat.pow_add]; congr 2; omega
  have hb : n * 2 ^ b = n * 2 ^ (b - c) * 2 ^ c := by rw [Nat.mul_assoc, ← Nat.pow_add]; congr 2; omega
  rw [← hv, ← hw, ha, hb]
  generalize m * 2 ^ (a - c) = p
  generalize n * 2 ^ (b - c) = q
  obtain ⟨T, hT⟩ : ∃ T, T = sg (sgn x) p + sg (!sgn y) q := ⟨_, rfl⟩
  have key : sg (sgn x) (p * 2 ^ c) - sg (sgn y) (q * 2 ^ c) = T * 2 ^ c := by
    rw [sg_mul, sg_mul, hT]
    have : sg (!sgn y) q = - sg (sgn y) q := by unfold sg; cases sgn y <;> simp
    rw [this, Int.add_mul, Int.neg_mul]
    omega
  rw [key, ← hT]
  refine ⟨_, T.natAbs, c, rfl, ?_, ?_⟩
  · rw [Int.natAbs_mul]
    congr 1
  · intro hpos
    have hp : (0 : Int) < 2 ^ c := Int.pow_pos (by omega)
    have : 0 < T := by
      by_cases c1 : 0 < T
      · exact c1
      · have := Int.mul_le_mul_of_nonneg_right (by omega : T ≤ 0) (Int.le_of_lt hp)
        omega
    rw [if_neg (by omega)]
    simp
    omega

/-- 1e15's rung, and one half's. -/
theorem val_top : val 4831355200913801216 = 1000000000000000 * U := by decide +kernel
theorem val_half : 2 * val 4602678819172646912 = U := by decide +kernel
end Go.Proofs.Ytfjkchkcgnjkaaa.Flt
