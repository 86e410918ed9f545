/- What lies below a place: the model. -/
import Derived.Test.YtlcbahlplablmaaRmA
namespace Go.Proofs.Ytlcbahlplablmaa.Rm
open Go.ChangeShapes Go.WideShapes Go.ChangeAt Go.RowKit
open Go.Proofs.Ytlcbahlplablmaa.Lists

/-- What the i-th amount has below x. -/
def part (E A : List Int) (x : Int) (i : Nat) : Int :=
  if E.getD (i + 1) 0 ≤ x then A.getD i 0 else if E.getD i 0 < x then (A.getD i 0 * (x - E.getD i 0)).tdiv (E.getD (i + 1) 0 - E.getD i 0) else 0
def bel (E A : List Int) (x : Int) : Nat → Int
  | 0 => 0
  | k + 1 => bel E A x k + part E A x k
/-- Edges and amounts that are right together. -/
def Fit (E A : List Int) : Prop := E.length ≤ 257 ∧ A.length + 1 = E.length ∧ (∀ j, j < E.length → -1000000 ≤ E.getD j 0 ∧ E.getD j 0 ≤ 1000000) ∧ (∀ j, j + 1 < E.length → E.getD j 0 < E.getD (j + 1) 0) ∧ ∀ j, j < A.length → 0 ≤ A.getD j 0 ∧ A.getD j 0 ≤ 1000000000000
theorem quo_le {a u v : Int} (ha : 0 ≤ a ∧ a ≤ 1000000000000) (hu : 0 ≤ u) (huv : u ≤ v) (hv : 0 < v ∧ v ≤ 2000000) : 0 ≤ a * u ∧ a * u ≤ 2000000000000000000 ∧ 0 ≤ (a * u).tdiv v ∧ (a * u).tdiv v ≤ a := by
  have h1 : 0 ≤ a * u := Int.mul_nonneg ha.1 hu
  have h2 : a * u ≤ a * v := Int.mul_le_mul_of_nonneg_left huv ha.1
  have h3 : a * v ≤ 1000000000000 * v := Int.mul_le_mul_of_nonneg_right ha.2 (by omega)
  refine ⟨h1, by omega, Int.tdiv_nonneg h1 (by omega), ?_⟩
  rw [Int.tdiv_eq_ediv_of_nonneg h1]
  calc a * u / v ≤ a * v / v := Int.ediv_le_ediv hv.1 h2
    _ = a := Int.mul_ediv_cancel a (by omega)
theorem part_le {E A : List Int} (h : Fit E A) (x : Int) (i : Nat) (hi : i < A.length) : 0 ≤ part E A x i ∧ part E A x i ≤ 1000000000000 := by
  obtain ⟨h1, h2, h3, h4, h5⟩ := h
  have a := h5 i hi
  unfold part
  split
  · exact a
  · split
    · have e0 := h3 i (by omega)
      have e1 := h3 (i + 1) (by omega)
      have e2 := h4 i (by omega)
      have := quo_le (a := A.getD i 0) (u := x - E.getD i 0) (v := E.getD (i + 1) 0 - E.getD i 0) a (by omega) (by omega) (by omega)
      omega
    · omega
theorem bel_le {E A : List Int} (h : Fit E A) (x : Int) (k : Nat) (hk : k ≤ A.length) : 0 ≤ bel E A x k ∧ bel E A x k ≤ 1000000000000 * (k : Int) := by
  induction k with
  | zero => simp [bel]
  | succ k ih =>
    have a := ih (by omega)
    have b := part_le h x k (by omega)
    unfold bel
    omega
end Go.Proofs.Ytlcbahlplablmaa.Rm
