/- The whole number nearest to a float64 of at most 1e15: found by the floor and what is left, and by rounding at once. -/
import Derived.Test.YtgajajpcjbpalaaFltX
namespace Go.Proofs.Ytgajajpcjbpalaa.Flt
open Ieee

/-- The whole number nearest to x. -/
def near (x : Nat) : Int := sg (sgn x) (rhe (val (rng x)) U)

theorem parts (x : Nat) : ∃ q d : Nat, val (rng x) / U = q ∧ val (rng x) % U = d ∧ val (rng x) = q * U + d ∧ d < U :=
  ⟨_, _, rfl, rfl, by rw [Nat.mul_comm]; exact (Nat.div_add_mod _ _).symm, Nat.mod_lt _ U_pos⟩

theorem floor_of (x : Nat) : num x / (U : Int) = (if num x < sg (sgn x) (val (rng x) / U) * (U : Int) then sg (sgn x) (val (rng x) / U) - 1 else sg (sgn x) (val (rng x) / U)) := by
  have hU := U_pos
  obtain ⟨q, d, h1, h2, h3, h4⟩ := parts x
  rw [h1]
  have e3 : (val (rng x) : Int) = (q : Int) * U + d := by rw [h3]; simp
  rcases num_cases x with ⟨s, e⟩ | ⟨s, e⟩
  · rw [s, e, e3]
    have : sg false q = (q : Int) := rfl
    rw [this, if_neg (by omega)]
    exact ((Int.ediv_emod_unique (a := (q : Int) * U + d) (b := (U : Int)) (q := q) (r := d) (by omega)).2 ⟨by rw [Int.mul_comm]; omega, by omega, by omega⟩).1
  · rw [s, e, e3]
    have : sg true q = -(q : Int) := rfl
    rw [this, Int.neg_mul]
    by_cases hd : d = 0
    · rw [if_neg (by omega)]
      exact ((Int.ediv_emod_unique (a := -((q : Int) * U + d)) (b := (U : Int)) (q := -(q : Int)) (r := 0) (by omega)).2 ⟨by rw [Int.mul_comm, Int.neg_mul]; omega, by omega, by omega⟩).1
    · rw [if_pos (by omega)]
      exact ((Int.ediv_emod_unique (a := -((q : Int) * U + d)) (b := (U : Int)) (q := -(q : Int) - 1) (r := (U : Int) - d) (by omega)).2 ⟨by rw [Int.mul_comm, Int.sub_mul, Int.neg_mul]; omega, by omega, by omega⟩).1

theorem sf (v : Nat) : sg false v = (v : Int) := rfl
theorem st (v : Nat) : sg true v = -(v : Int) := rfl
theorem near_of (x : Nat) : near x = num x / (U : Int) + (if (U : Int) < 2 * (num x % (U : Int)) ∨ (U : Int) = 2 * (num x % (U : Int)) ∧ num x / (U : Int) % 2 ≠ 0 then 1 else 0) := by
  have hU := U_pos
  obtain ⟨q, d, h1, h2, h3, h4⟩ := parts x
  have e3 : (val (rng x) : Int) = (q : Int) * U + d := by rw [h3]; simp
  unfold near rhe
  rw [h1, h2]
  rcases num_cases x with ⟨s, e⟩ | ⟨s, e⟩
  · rw [s, e, e3]
    obtain ⟨u1, u2⟩ := (Int.ediv_emod_unique (a := (q : Int) * U + d) (b := (U : Int)) (q := q) (r := d) (by omega)).2 ⟨by rw [Int.mul_comm]; omega, by omega, by omega⟩
    rw [u1, u2]
    rw [sf]
    clear u1 u2
    by_cases c : U < 2 * d ∨ U = 2 * d ∧ q % 2 = 1
    · rw [if_pos c, if_pos (by omega)]; omega
    · rw [if_neg c, if_neg (by omega)]; omega
  · rw [s, e, e3]
    by_cases hd : d = 0
    · obtain ⟨u1, u2⟩ := (Int.ediv_emod_unique (a := -((q : Int) * U + d)) (b := (U : Int)) (q := -(q : Int)) (r := 0) (by omega)).2 ⟨by rw [Int.mul_comm, Int.neg_mul]; omega, by omega, by omega⟩
      rw [u1, u2]
      rw [st]
      clear u1 u2
      rw [if_neg (by omega), if_neg (by omega)]
      omega
    · obtain ⟨u1, u2⟩ := (Int.ediv_emod_unique (a := -((q : Int) * U + d)) (b := (U : Int)) (q := -(q : Int) - 1) (r := (U : Int) - d) (by omega)).2 ⟨by rw [Int.mul_comm, Int.sub_mul, Int.neg_mul]; omega, by omega, by omega⟩
      rw [u1, u2]
      rw [st]
      clear u1 u2
      by_cases c : U < 2 * d ∨ U = 2 * d ∧ q % 2 = 1
      · rw [if_pos c, if_neg (by omega)]; omega
      · rw [if_neg c, if_pos (by omega)]; omega

theorem rhe_le (x : Nat) (h : rng x ≤ 4831355200913801216) : rhe (val (rng x)) U ≤ 1000000000000000 := by
  have hU := U_pos
  have ht := top x h
  obtain ⟨q, d, h1, h2, h3, h4⟩ := parts x
  have hq := q_le x h
  unfold rhe
  rw [h1] at hq
  rw [h1, h2]
  by_cases c : q = 1000000000000000
  · have : d = 0 := by rw [h3, c] at ht; omega
    rw [if_neg (by omega)]
    omega
  · split <;> omega

/-- Rounded at once: the float64 of the nearest whole number, and that number itself. -/
theorem rounded (x : Nat) (h : rng x ≤ 4831355200913801216) : ∃ y, double.write ((double.read x).integral .even) = y ∧ y < 18446744073709551616 ∧ floatToIntVal .f64 y .i64 = some (near x) := by
  have hr := rhe_le x h
  have hU := U_pos
  obtain ⟨r, r1, r2, r3⟩ := whole (sgn x) (rhe (val (rng x)) U) (by omega)
  obtain ⟨w1, w2, w3⟩ := sgn_word (sgn x) r (by omega)
  refine ⟨double.word (sgn x) r, ?_, w3, ?_⟩
  · rw [integral_even x (by omega)]
    exact r1
  · have ht : r ≤ 4831355200913801216 := by
      by_cases c : r ≤ 4831355200913801216
      · exact c
      · have a1 := val_lt (r := 4831355200913801216) (q := r) (by omega)
        rw [val_top, r2] at a1
        have := Nat.mul_le_mul_right U hr
        omega
    rw [toInt_val _ (by rw [w2]; exact ht), w1, w2, r2, Nat.mul_div_cancel _ hU]
    rfl

theorem near_small (x : Nat) (h : rng x ≤ 4831355200913801216) : (num x / (U : Int)).natAbs < 9007199254740992 ∧ (sg (sgn x) (val (rng x) / U)).natAbs < 9007199254740992 ∧ -1000000000000001 ≤ num x / (U : Int) ∧ num x / (U : Int) ≤ 1000000000000000 := by
  have hq := q_le x h
  rw [floor_of]
  generalize val (rng x) / U = q at *
  unfold sg
  cases sgn x <;> simp <;> split <;> omega

theorem near_in (x : Nat) (h : rng x ≤ 4831355200913801216) : -1000000000000000 ≤ near x ∧ near x ≤ 1000000000000000 := by
  have := rhe_le x h
  unfold near sg
  split <;> omega
end Go.Proofs.Ytgajajpcjbpalaa.Flt
