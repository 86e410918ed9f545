/- Counts and bins hold all: plainly. -/
import Derived.Test.YtilkccilahglcaaDu
namespace Go.Proofs.Ytilkccilahglcaa.Tp
open Go.ChangeShapes Go.WideShapes Go.ChangeAt Go.RowKit
open Go.Proofs.Ytilkccilahglcaa.Al Go.Proofs.Ytilkccilahglcaa.Br Go.Proofs.Ytilkccilahglcaa.Rl

def ht (L : Pb.Ls) : Nat → Int := cn (Pb.c1 L)
theorem four (L : Pb.Ls) (p : Int) (k : Nat) : cn (pH L p) k + cn (pM L p) k = ht L k ∧ cn (pF L p) k + cn (pN L p) k = (k : Int) - ht L k := by
  induction k with
  | zero => simp [cn, ht]
  | succ k ih =>
    have e : ht L (k + 1) = ht L k + if Pb.c1 L k then 1 else 0 := rfl
    have e0 : cn (pH L p) (k + 1) = cn (pH L p) k + if pH L p k then 1 else 0 := rfl
    have e1 : cn (pM L p) (k + 1) = cn (pM L p) k + if pM L p k then 1 else 0 := rfl
    have e2 : cn (pF L p) (k + 1) = cn (pF L p) k + if pF L p k then 1 else 0 := rfl
    have e3 : cn (pN L p) (k + 1) = cn (pN L p) k + if pN L p k then 1 else 0 := rfl
    rw [e, e0, e1, e2, e3]
    have d0 : pH L p k = (decide (p ≤ Pb.c0 L k) && Pb.c1 L k) := rfl
    have d1 : pM L p k = (!decide (p ≤ Pb.c0 L k) && Pb.c1 L k) := rfl
    have d2 : pF L p k = (decide (p ≤ Pb.c0 L k) && !Pb.c1 L k) := rfl
    have d3 : pN L p k = (!decide (p ≤ Pb.c0 L k) && !Pb.c1 L k) := rfl
    rw [d0, d1, d2, d3]
    clear d0 d1 d2 d3 e e0 e1 e2 e3
    generalize cn (pH L p) k = x0 at *
    generalize cn (pM L p) k = x1 at *
    generalize cn (pF L p) k = x2 at *
    generalize cn (pN L p) k = x3 at *
    cases Pb.c1 L k <;> by_cases hp : p ≤ Pb.c0 L k <;> simp [hp] <;> omega
theorem less {P Q : Nat → Bool} (h : ∀ i, P i = true → Q i = true) (k : Nat) : cn P k ≤ cn Q k := by
  induction k with
  | zero => exact Int.le_refl _
  | succ k ih =>
    show cn P k + _ ≤ cn Q k + _
    by_cases hp : P k = true
    · rw [if_pos hp, if_pos (h k hp)]; omega
    · rw [if_neg hp]
      split <;> omega
theorem moreH (L : Pb.Ls) {p q : Int} (h : p ≤ q) (k : Nat) : cn (pH L q) k ≤ cn (pH L p) k := less (fun i hi => by
  unfold pH at hi ⊢
  rw [Bool.and_eq_true, decide_eq_true_eq] at hi ⊢
  exact ⟨by omega, hi.2⟩) k
theorem moreF (L : Pb.Ls) {p q : Int} (h : p ≤ q) (k : Nat) : cn (pF L q) k ≤ cn (pF L p) k := less (fun i hi => by
  unfold pF at hi ⊢
  rw [Bool.and_eq_true, decide_eq_true_eq] at hi ⊢
  exact ⟨by omega, hi.2⟩) k
/-- What the first k bins hold together. -/
def pc (L : Pb.Ls) (i : Nat) : Nat → Int
  | 0 => 0
  | k + 1 => pc L i k + cn (bC L k) i
def ph (L : Pb.Ls) (i : Nat) : Nat → Int
  | 0 => 0
  | k + 1 => ph L i k + cn (bH L k) i
theorem pc_bd (L : Pb.Ls) (i k : Nat) : 0 ≤ pc L i k ∧ pc L i k ≤ (i : Int) * k := by
  induction k with
  | zero => simp [pc]
  | succ k ih =>
    have := cn_bd (bC L k) i
    unfold pc
    rw [Int.natCast_add, Int.mul_add]
    simp
    omega
theorem ph_bd (L : Pb.Ls) (i k : Nat) : 0 ≤ ph L i k ∧ ph L i k ≤ (i : Int) * k := by
  induction k with
  | zero => simp [ph]
  | succ k ih =>
    have := cn_bd (bH L k) i
    unfold ph
    rw [Int.natCast_add, Int.mul_add]
    simp
    omega
theorem pc_step (L : Pb.Ls) (i k : Nat) : pc L (i + 1) k = pc L i k + (if 0 ≤ Pb.c0 L i / 10 ∧ Pb.c0 L i / 10 < (k : Int) then 1 else 0) := by
  induction k with
  | zero =>
    have : ¬ (0 ≤ Pb.c0 L i / 10 ∧ Pb.c0 L i / 10 < ((0 : Nat) : Int)) := by omega
    rw [if_neg this]
    simp [pc]
  | succ k ih =>
    show pc L (i + 1) k + cn (bC L k) (i + 1) = pc L i k + cn (bC L k) i + _
    have e : cn (bC L k) (i + 1) = cn (bC L k) i + if bC L k i then 1 else 0 := rfl
    rw [ih, e]
    unfold bC
    simp only [decide_eq_true_eq]
    generalize Pb.c0 L i / 10 = q
    by_cases h1 : q = (k : Int)
    · rw [if_pos h1, if_neg (by omega), if_pos (by omega)]; omega
    · rw [if_neg h1]
      by_cases h2 : 0 ≤ q ∧ q < (k : Int)
      · rw [if_pos h2, if_pos (by omega)]; omega
      · rw [if_neg h2, if_neg (by omega)]; omega
theorem ph_step (L : Pb.Ls) (i k : Nat) : ph L (i + 1) k = ph L i k + (if (0 ≤ Pb.c0 L i / 10 ∧ Pb.c0 L i / 10 < (k : Int)) ∧ Pb.c1 L i = true then 1 else 0) := by
  induction k with
  | zero =>
    have : ¬ ((0 ≤ Pb.c0 L i / 10 ∧ Pb.c0 L i / 10 < ((0 : Nat) : Int)) ∧ Pb.c1 L i = true) := by omega
    rw [if_neg this]
    simp [ph]
  | succ k ih =>
    show ph L (i + 1) k + cn (bH L k) (i + 1) = ph L i k + cn (bH L k) i + _
    have e : cn (bH L k) (i + 1) = cn (bH L k) i + if bH L k i then 1 else 0 := rfl
    rw [ih, e]
    unfold bH
    simp only [Bool.and_eq_true, decide_eq_true_eq]
    generalize Pb.c0 L i / 10 = q
    cases Pb.c1 L i
    · simp
    · simp only [and_true]
      by_cases h1 : q = (k : Int)
      · rw [if_pos h1, if_neg (by omega), if_pos (by omega)]; omega
      · rw [if_neg h1]
        by_cases h2 : 0 ≤ q ∧ q < (k : Int)
        · rw [if_pos h2, if_pos (by omega)]; omega
        · rw [if_neg h2, if_neg (by omega)]; omega
theorem bins_all (L : Pb.Ls) (h : ∀ j, j < L.length → 0 ≤ Pb.c0 L j ∧ Pb.c0 L j ≤ 100) (i : Nat) (hi : i ≤ L.length) : pc L i 11 = (i : Int) ∧ ph L i 11 = ht L i := by
  induction i with
  | zero =>
    have e : ∀ k, pc L 0 k = 0 := fun k => by induction k with
      | zero => rfl
      | succ k ih => show pc L 0 k + 0 = 0; rw [ih]; rfl
    have e' : ∀ k, ph L 0 k = 0 := fun k => by induction k with
      | zero => rfl
      | succ k ih => show ph L 0 k + 0 = 0; rw [ih]; rfl
    exact ⟨e 11, e' 11⟩
  | succ i ih =>
    have a := ih (by omega)
    have b := h i (by omega)
    have q : 0 ≤ Pb.c0 L i / 10 ∧ Pb.c0 L i / 10 < ((11 : Nat) : Int) := by omega
    have e : ht L (i + 1) = ht L i + if Pb.c1 L i then 1 else 0 := rfl
    rw [pc_step, ph_step, e, if_pos q, a.1, a.2]
    refine ⟨by omega, ?_⟩
    cases Pb.c1 L i
    · simp
    · rw [if_pos ⟨q, rfl⟩]; rfl
end Go.Proofs.Ytilkccilahglcaa.Tp
