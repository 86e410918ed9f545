/- Smooth, plainly: the mean of a point and of its neighbours, those that are not there left out or missing. -/
import Derived.Test.YtplichonohoacaaVaA
import Derived.Test.YtplichonohoacaaSmM
namespace Go.Proofs.Ytplichonohoacaa.Gd
open Go.ChangeShapes Go.WideShapes Go.ChangeAt Go.RowKit
open Go.Proofs.Ytplichonohoacaa.Flt Go.Proofs.Ytplichonohoacaa.Smm

theorem kn_nan {x : Nat} (h : nan x = true) : kn x = false := by
  unfold nan at h
  unfold kn
  simp only [decide_eq_true_eq, decide_eq_false_iff_not] at h ⊢
  omega
theorem stp_cn (p : Nat × Nat) (x : Nat) : stp p (cn x) = stp p x := by
  cases h : nan x
  · rw [cn_num h]
  · rw [cn_nan h]
    unfold stp
    rw [if_neg (by rw [kn_nan nan_qn]; simp), if_neg (by rw [kn_nan h]; simp)]
theorem fold_cn (L : List Nat) (p : Nat × Nat) : (L.map cn).foldl stp p = L.foldl stp p := by
  induction L generalizing p with
  | nil => rfl
  | cons x r ih => rw [List.map_cons, List.foldl_cons, List.foldl_cons, stp_cn, ih]
theorem stp_qn (p : Nat × Nat) : stp p qn = p := by
  unfold stp
  rw [if_neg (by rw [kn_nan nan_qn]; simp)]

/-- The mean, up to which missing number. -/
def mnOf (L : List Nat) : Nat := if 0 < (sumOf L).2 then cn ((Ieee.double.div (sumOf L).1 (floatOfInt .f64 ((sumOf L).2 : Int))).getD 0) else qn
theorem mn_is {L : List Nat} {b : Nat} (hl : L.length ≤ 4000) (h : Mn L b) : cn b = mnOf L := by
  unfold Mn res at h
  unfold mnOf
  rw [if_pos hl] at h
  by_cases hc : 0 < (sumOf L).2
  · rw [if_pos hc]
    rw [if_pos (by show (0 : Int) < _; omega)] at h
    rw [h]
    rfl
  · rw [if_neg hc]
    rw [if_neg (by show ¬ (0 : Int) < _; omega)] at h
    exact h
theorem mn_cn {L M : List Nat} (h : L.map cn = M.map cn) : mnOf L = mnOf M := by
  have e : sumOf L = sumOf M := by unfold sumOf; rw [← fold_cn L, ← fold_cn M, h]
  unfold mnOf
  rw [e]

theorem fold_near (r c : Int) (L : List Nat) (E : List (Int × Int)) (p : Nat × Nat) : (E.map fun e => nearV r c L e.1 e.2).foldl stp p = ((E.filter fun e => there r c e.1 e.2).map (vAt c L)).foldl stp p := by
  induction E generalizing p with
  | nil => rfl
  | cons e r' ih =>
    rw [List.map_cons, List.foldl_cons]
    cases ht : there r c e.1 e.2
    · rw [List.filter_cons_of_neg (by simp [ht]), show nearV r c L e.1 e.2 = qn from by unfold nearV; rw [ht]; rfl, stp_qn]
      exact ih p
    · rw [List.filter_cons_of_pos (by simp [ht]), List.map_cons, List.foldl_cons, show nearV r c L e.1 e.2 = cn (vAt c L e) from by unfold nearV; rw [ht]; rfl, stp_cn]
      exact ih _

/-- A point's smoothed value. -/
def smV (r c : Int) (L : List Nat) (i j : Int) : Nat := if nan (vAt c L (i, j)) then qn else mnOf (vAt c L (i, j) :: (nb r c i j).map (vAt c L))
def smN (r c : Int) (L : List Nat) (k : Nat) : Nat := smV r c L ((k : Int) / c) ((k : Int) % c)
/-- The model's list of five, told by what its neighbours are. -/
theorem five_mean {r c : Int} {L : List Nat} {i j : Int} {x n1 n2 n3 n4 : Nat} (hx : cn x = cn (vAt c L (i, j))) (h1 : cn n1 = nearV r c L (i + 1) j) (h2 : cn n2 = nearV r c L i (j + 1)) (h3 : cn n3 = nearV r c L (i - 1) j) (h4 : cn n4 = nearV r c L i (j - 1)) : mnOf [x, n1, n2, n3, n4] = mnOf (vAt c L (i, j) :: (nb r c i j).map (vAt c L)) := by
  have e : sumOf [x, n1, n2, n3, n4] = sumOf (vAt c L (i, j) :: (nb r c i j).map (vAt c L)) := by
    unfold sumOf
    rw [← fold_cn [x, n1, n2, n3, n4], List.foldl_cons, show ([x, n1, n2, n3, n4].map cn).foldl stp (0, 0) = ((cands i j).map fun e => nearV r c L e.1 e.2).foldl stp (stp (0, 0) (cn x)) from by simp [cands, h1, h2, h3, h4], hx, stp_cn, fold_near]
    rfl
  unfold mnOf
  rw [e]
end Go.Proofs.Ytplichonohoacaa.Gd
