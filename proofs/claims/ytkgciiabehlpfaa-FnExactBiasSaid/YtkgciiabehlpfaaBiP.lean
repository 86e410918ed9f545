/- By how much reads differ in the mean, plain. -/
import Derived.Test.YtkgciiabehlpfaaBiF
namespace Go.Proofs.Ytkgciiabehlpfaa.Bi
open Go.ChangeShapes Go.WideShapes Go.ChangeAt Go.RowKit
open Go.Proofs.Ytkgciiabehlpfaa.Flt

/-- What the k-th read of A adds: the first of B there, when both are known. -/
def hit (A B : Rd.Ls) (k : Nat) : Option Nat := match fst B (Rd.c0 A k) (Rd.c1 A k) with
  | some y => if kn (Rd.c2 A k) = true ∧ kn y = true then some y else none
  | none => none
def bst (A B : Rd.Ls) : Nat → Nat × Nat
  | 0 => (0, 0)
  | k + 1 => match hit A B k with
    | some y => (opF .add (bst A B k).1 (opF .sub (cn (Rd.c2 A k)) (cn y)), (bst A B k).2 + 1)
    | none => bst A B k
theorem bst_le (A B : Rd.Ls) (k : Nat) : (bst A B k).2 ≤ k := by
  induction k with
  | zero => exact Nat.le_refl _
  | succ k ih =>
    unfold bst
    cases hit A B k with
    | some y => simp only; omega
    | none => simp only; omega
theorem bst_yes {A B : Rd.Ls} {k y : Nat} (h : hit A B k = some y) : bst A B (k + 1) = (opF .add (bst A B k).1 (opF .sub (cn (Rd.c2 A k)) (cn y)), (bst A B k).2 + 1) := by
  rw [bst, h]
theorem bst_no {A B : Rd.Ls} {k : Nat} (h : hit A B k = none) : bst A B (k + 1) = bst A B k := by
  rw [bst, h]
/-- The answer. -/
def bias (A B : Rd.Ls) : Nat × Int :=
  if A.length ≤ 300 ∧ B.length ≤ 300 ∧ (bst A B A.length).2 ≠ 0 then (opF .quo (bst A B A.length).1 (cn (floatOfInt .f64 ((bst A B A.length).2 : Int))), ((bst A B A.length).2 : Int)) else (qn, 0)
theorem bias_no {A B : Rd.Ls} (h : ¬ (A.length ≤ 300 ∧ B.length ≤ 300 ∧ (bst A B A.length).2 ≠ 0)) : bias A B = (qn, 0) := if_neg h
theorem bias_yes {A B : Rd.Ls} (h : A.length ≤ 300 ∧ B.length ≤ 300 ∧ (bst A B A.length).2 ≠ 0) : bias A B = (opF .quo (bst A B A.length).1 (cn (floatOfInt .f64 ((bst A B A.length).2 : Int))), ((bst A B A.length).2 : Int)) := if_pos h
theorem fst_fit {B : Rd.Ls} (hB : Oks B) {s t : Int} {y : Nat} (h : fst B s t = some y) : y < 18446744073709551616 := by
  unfold fst at h
  obtain ⟨z, hz, rfl⟩ := Option.map_eq_some_iff.1 h
  have hm := List.mem_of_find?_eq_some hz
  obtain ⟨i, hi, e⟩ := List.getElem_of_mem hm
  have := (hB i hi).2.2
  simp [Rd.c2, List.getD_eq_getElem?_getD, hi, e] at this
  exact this
end Go.Proofs.Ytkgciiabehlpfaa.Bi
