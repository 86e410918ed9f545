/- A sum over a function value, for each of the function literals that are handed to it. -/
import Derived.Test.YtcdajejapcbllaaAlA
import Derived.WalkLawsBesides
namespace Go.Proofs.Ytcdajejapcbllaa.Su
open Go.ChangeShapes Go.WideShapes Go.ChangeAt Go.RowKit
open Go.Proofs.Ytcdajejapcbllaa.Lists

def sm : Nat → (Nat → Int) → Int
  | 0, _ => 0
  | n + 1, f => sm n f + f n
theorem sm_congr {n : Nat} {f g : Nat → Int} (h : ∀ i, i < n → f i = g i) : sm n f = sm n g := by
  induction n with
  | zero => rfl
  | succ n ih => unfold sm; rw [ih fun i hi => h i (by omega), h n (by omega)]
theorem sm_bound {n : Nat} {f : Nat → Int} {M : Int} (h : ∀ i, i < n → -M ≤ f i ∧ f i ≤ M) : ∀ k, k ≤ n → -(M * k) ≤ sm k f ∧ sm k f ≤ M * k := by
  intro k hk
  induction k with
  | zero => simp [sm]
  | succ k ih =>
    have a := ih (by omega)
    have b := h k (by omega)
    unfold sm
    have e : M * ((k + 1 : Nat) : Int) = M * (k : Int) + M := by rw [Int.natCast_add, Int.mul_add]; simp
    rw [e]
    omega


end Go.Proofs.Ytcdajejapcbllaa.Su
