/- Squares that are least where the share is: plainly. -/
import Derived.Test.YtiackdffbchpeaaBs
namespace Go.Proofs.Ytiackdffbchpeaa.Pp
open Go.ChangeShapes Go.WideShapes Go.ChangeAt Go.RowKit
open Go.Proofs.Ytiackdffbchpeaa.Al Go.Proofs.Ytiackdffbchpeaa.Su Go.Proofs.Ytiackdffbchpeaa.Br

/-- The first j of n have p, the others q; the first h came so. -/
def mx (h : Nat) (p q : Int) (j n : Nat) : Pb.Ls := (List.range n).map fun i => (if i < j then p else q, decide (i < h))
theorem mx_len (h : Nat) (p q : Int) (j n : Nat) : (mx h p q j n).length = n := by simp [mx]
theorem mx_0 (h : Nat) (p q : Int) (j n i : Nat) (hi : i < n) : Pb.c0 (mx h p q j n) i = if i < j then p else q := by simp [Pb.c0, mx, List.getD_eq_getElem?_getD, hi]
theorem mx_1 (h : Nat) (p q : Int) (j n i : Nat) (hi : i < n) : Pb.c1 (mx h p q j n) i = decide (i < h) := by simp [Pb.c1, mx, List.getD_eq_getElem?_getD, hi]
theorem mx_none (h : Nat) (p p' q : Int) (n : Nat) : mx h p q 0 n = mx h p' q 0 n := by simp [mx]
theorem mx_full (h : Nat) (p q : Int) (n : Nat) : mx h p q n n = mx h 0 p 0 n := by
  unfold mx
  apply List.map_congr_left
  intro i hi
  rw [List.mem_range] at hi
  simp [hi]
theorem mx_snoc (h : Nat) (q : Int) (n : Nat) : mx h 0 q 0 (n + 1) = mx h 0 q 0 n ++ [(q, decide (n < h))] := by
  unfold mx
  rw [List.range_succ]
  simp
theorem mx_ok (h : Nat) (q : Int) (n : Nat) (hq : 0 ≤ q ∧ q ≤ 100) (hn : n ≤ 100) : okT (mx h 0 q 0 n) = true := by
  refine okT_yes ⟨by rw [mx_len]; omega, fun j hj => ?_⟩
  rw [mx_len] at hj
  rw [mx_0 h 0 q 0 n j hj]
  simpa using hq
theorem mx_good {xs : List Value} {h : Nat} {p q : Int} {j n : Nat} (G : Pb.Good xs (mx h p q j n) n) (hl : xs.length = n * 2) (hj : j < n) : Pb.Good (xs.set (j * 2) (.int .i64 p)) (mx h p q (j + 1) n) n := by
  intro i hi
  obtain ⟨g0, g1⟩ := G i hi
  rw [mx_0 h p q j n i hi] at g0
  rw [mx_1 h p q j n i hi] at g1
  rw [mx_0 h p q (j + 1) n i hi, mx_1 h p q (j + 1) n i hi]
  refine ⟨?_, by rw [List.getElem?_set_ne (by omega)]; exact g1⟩
  by_cases e : i = j
  · subst e
    rw [List.getElem?_set_self (by omega), if_pos (by omega)]
  · rw [List.getElem?_set_ne (by omega), g0]
    by_cases hlt : i < j
    · rw [if_pos hlt, if_pos (by omega)]
    · rw [if_neg hlt, if_neg (by omega)]

/-- The sum over the first k of n, told by squares. -/
theorem bsum_mx (h : Nat) (q : Int) (n k : Nat) (hk : k ≤ n) : bsum (mx h 0 q 0 n) k = (if k < h then (k : Int) else h) * ((q - 100) * (q - 100)) + ((k : Int) - if k < h then (k : Int) else h) * (q * q) := by
  induction k with
  | zero =>
    show (0 : Int) = _
    by_cases e : 0 < h
    · rw [if_pos e]; simp
    · rw [if_neg e]
      have : h = 0 := by omega
      subst this
      simp
  | succ k ih =>
    have e1 : bsum (mx h 0 q 0 n) (k + 1) = bsum (mx h 0 q 0 n) k + pen (Pb.c0 (mx h 0 q 0 n) k) (Pb.c1 (mx h 0 q 0 n) k) := rfl
    have z0 : Pb.c0 (mx h 0 q 0 n) k = q := by rw [mx_0 h 0 q 0 n k (by omega)]; simp
    rw [e1, ih (by omega), z0, mx_1 h 0 q 0 n k (by omega)]
    unfold pen
    generalize (q - 100) * (q - 100) = A
    generalize q * q = B
    by_cases c1 : k + 1 < h
    · rw [if_pos (by omega : k < h), if_pos c1, decide_eq_true (by omega : k < h), if_pos rfl]
      have e2 : ((k : Int) - (k : Int)) = 0 := by omega
      have e3 : ((((k + 1 : Nat) : Int)) - ((k + 1 : Nat) : Int)) = 0 := by omega
      rw [e2, e3, Int.zero_mul, Int.add_zero, Int.add_zero, Int.natCast_add, Int.add_mul]
      simp
    · by_cases c2 : k < h
      · have hh : h = k + 1 := by omega
        rw [if_pos c2, if_neg c1, decide_eq_true c2, if_pos rfl, hh]
        have e2 : ((k : Int) - (k : Int)) = 0 := by omega
        have e3 : ((((k + 1 : Nat) : Int)) - ((k + 1 : Nat) : Int)) = 0 := by omega
        rw [e2, e3, Int.zero_mul, Int.add_zero, Int.add_zero, Int.natCast_add, Int.add_mul]
        simp
      · rw [if_neg c2, if_neg c1, decide_eq_false c2]
        simp only [Bool.false_eq_true, if_false]
        have e3 : (((k + 1 : Nat) : Int) - (h : Int)) = ((k : Int) - h) + 1 := by omega
        rw [e3, Int.add_mul, Int.one_mul]
        omega
theorem tot_mx (h n : Nat) (q : Int) (hh : h ≤ n) : bsum (mx h 0 q 0 n) n = h * ((q - 100) * (q - 100)) + ((n : Int) - h) * (q * q) := by
  rw [bsum_mx h q n n (Nat.le_refl _)]
  by_cases e : n < h
  · omega
  · rw [if_neg e]
theorem sq_nn (a : Int) : 0 ≤ a * a := by
  rcases Int.le_total 0 a with h | h
  · exact Int.mul_nonneg h h
  · exact Int.mul_nonneg_of_nonpos_of_nonpos h h
theorem apart_sq (h n b q : Int) (e : n * b = 100 * h) : (h * ((q - 100) * (q - 100)) + (n - h) * (q * q)) = (h * ((b - 100) * (b - 100)) + (n - h) * (b * b)) + n * ((q - b) * (q - b)) := by
  have e1 : n * b * q = 100 * h * q := by rw [e]
  have e2 : n * b * b = 100 * h * b := by rw [e]
  simp only [Int.mul_sub, Int.mul_comm, Int.mul_left_comm] at *
  omega
theorem proper {h n : Nat} {b q : Int} (hh : h ≤ n) (hn : 1 ≤ n) (e : (n : Int) * b = 100 * h) : bsum (mx h 0 b 0 n) n ≤ bsum (mx h 0 q 0 n) n ∧ (bsum (mx h 0 q 0 n) n = bsum (mx h 0 b 0 n) n → q = b) := by
  rw [tot_mx h n q hh, tot_mx h n b hh, apart_sq h n b q e]
  have s := sq_nn (q - b)
  have m : (0 : Int) ≤ n * ((q - b) * (q - b)) := Int.mul_nonneg (by omega) s
  refine ⟨by omega, fun z => ?_⟩
  have z2 : (n : Int) * ((q - b) * (q - b)) = 0 := by omega
  rcases Int.mul_eq_zero.mp z2 with x | x
  · omega
  · rcases Int.mul_eq_zero.mp x with y | y <;> omega
end Go.Proofs.Ytiackdffbchpeaa.Pp
