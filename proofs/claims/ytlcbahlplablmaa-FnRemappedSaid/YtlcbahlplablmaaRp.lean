/- What Remap keeps, plain. -/
import Derived.Test.YtlcbahlplablmaaRmE
namespace Go.Proofs.Ytlcbahlplablmaa.Rm
open Go.ChangeShapes Go.WideShapes Go.ChangeAt Go.RowKit
open Go.Proofs.Ytlcbahlplablmaa.Lists
theorem part_mono {E A : List Int} (h : Fit E A) {x y : Int} (hxy : x ≤ y) (i : Nat) (hi : i < A.length) : part E A x i ≤ part E A y i := by
  have pb := part_le h y i hi
  have pa := part_le h x i hi
  obtain ⟨h1, h2, h3, h4, h5⟩ := h
  have a := h5 i hi
  have e0 := h3 i (by omega)
  have e1 := h3 (i + 1) (by omega)
  have e2 := h4 i (by omega)
  unfold part at pa pb ⊢
  generalize A.getD i 0 = n at *
  generalize E.getD i 0 = lo at *
  generalize E.getD (i + 1) 0 = hi' at *
  by_cases c1 : hi' ≤ x
  · rw [if_pos c1, if_pos (by omega)]; omega
  · rw [if_neg c1] at pa ⊢
    by_cases c2 : lo < x
    · rw [if_pos c2] at pa ⊢
      have q := quo_le (a := n) (u := x - lo) (v := hi' - lo) a (by omega) (by omega) (by omega)
      by_cases c3 : hi' ≤ y
      · rw [if_pos c3]; omega
      · rw [if_neg c3, if_pos (by omega)]
        have m1 : n * (x - lo) ≤ n * (y - lo) := Int.mul_le_mul_of_nonneg_left (by omega) a.1
        have m0 : 0 ≤ n * (x - lo) := Int.mul_nonneg a.1 (by omega)
        rw [Int.tdiv_eq_ediv_of_nonneg m0, Int.tdiv_eq_ediv_of_nonneg (by omega)]
        exact Int.ediv_le_ediv (by omega) m1
    · rw [if_neg c2] at pa ⊢
      omega
theorem bel_mono {E A : List Int} (h : Fit E A) {x y : Int} (hxy : x ≤ y) (k : Nat) (hk : k ≤ A.length) : bel E A x k ≤ bel E A y k := by
  induction k with
  | zero => simp [bel]
  | succ k ih =>
    have := ih (by omega)
    have := part_mono h hxy k (by omega)
    unfold bel
    omega
theorem edges_le {E : List Int} (h : ∀ j, j + 1 < E.length → E.getD j 0 < E.getD (j + 1) 0) {a b : Nat} (hab : a ≤ b) (hb : b < E.length) : E.getD a 0 ≤ E.getD b 0 := by
  induction b with
  | zero => have : a = 0 := by omega
            subst this; exact Int.le_refl _
  | succ b ih =>
    by_cases e : a = b + 1
    · subst e; exact Int.le_refl _
    · have := ih (by omega) (by omega)
      have := h b (by omega)
      omega
def tot (L : List Int) : Nat → Int
  | 0 => 0
  | k + 1 => tot L k + L.getD k 0
/-- beyond the last edge: all -/
theorem bel_all {E A : List Int} (h : Fit E A) {x : Int} (hx : E.getD (E.length - 1) 0 ≤ x) (k : Nat) (hk : k ≤ A.length) : bel E A x k = tot A k := by
  obtain ⟨h1, h2, h3, h4, h5⟩ := h
  induction k with
  | zero => rfl
  | succ k ih =>
    have e := edges_le h4 (show k + 1 ≤ E.length - 1 by omega) (by omega)
    unfold bel tot
    rw [ih (by omega)]
    unfold part
    rw [if_pos (by omega)]
/-- ahead of the first edge: nothing -/
theorem bel_none {E A : List Int} (h : Fit E A) {x : Int} (hx : x ≤ E.getD 0 0) (k : Nat) (hk : k ≤ A.length) : bel E A x k = 0 := by
  obtain ⟨h1, h2, h3, h4, h5⟩ := h
  induction k with
  | zero => rfl
  | succ k ih =>
    have e := edges_le h4 (show 0 ≤ k by omega) (show k < E.length by omega)
    have e2 := h4 k (by omega)
    unfold bel
    rw [ih (by omega)]
    unfold part
    rw [if_neg (by omega), if_neg (by omega)]
    rfl
/-- at an edge: all amounts ahead of it -/
theorem bel_edge {E A : List Int} (h : Fit E A) (m : Nat) (hm : m ≤ A.length) (k : Nat) (hk : k ≤ A.length) : bel E A (E.getD m 0) k = tot A (min k m) := by
  obtain ⟨h1, h2, h3, h4, h5⟩ := h
  induction k with
  | zero => simp [bel, tot]
  | succ k ih =>
    unfold bel
    rw [ih (by omega)]
    unfold part
    by_cases c : k + 1 ≤ m
    · have e := edges_le h4 c (by omega)
      rw [if_pos (by omega), Nat.min_eq_left (by omega), Nat.min_eq_left c]
      rfl
    · have e := edges_le h4 (show m ≤ k by omega) (by omega)
      have e2 := h4 k (by omega)
      rw [if_neg (by omega), if_neg (by omega), Nat.min_eq_right (by omega), Nat.min_eq_right (by omega)]
      omega
theorem rem_get (E A T : List Int) (k i : Nat) (hi : i < k) : (rem E A T k).getD i 0 = bel E A (T.getD (i + 1) 0) A.length - bel E A (T.getD i 0) A.length := by
  simp [rem, List.getD_eq_getElem?_getD, hi]
theorem tot_rem (E A T : List Int) (n k : Nat) (hk : k ≤ n) : tot (rem E A T n) k = bel E A (T.getD k 0) A.length - bel E A (T.getD 0 0) A.length := by
  induction k with
  | zero => simp [tot]
  | succ k ih =>
    unfold tot
    rw [ih (by omega), rem_get E A T n k (by omega)]
    omega
theorem okR_fit {E A T : List Int} (h : okR E A T = true) : Fit E A ∧ 2 ≤ T.length ∧ T.length ≤ 257 ∧ okE E = true ∧ okE T = true ∧ okA A = true ∧ A.length + 1 = E.length := by
  unfold okR at h
  rw [Bool.and_eq_true] at h
  obtain ⟨a, b, c, d, e, f⟩ := heads_fit h.1
  exact ⟨fit_of h.1 h.2, e, f, a, b, h.2, c⟩
/-- to their own edges the amounts come as they are -/
theorem remap_own {E A T : List Int} (h : okR E A T = true) : okR E A E = true ∧ remap E A E = A := by
  obtain ⟨hf, _, _, he, _, ha, hl⟩ := okR_fit h
  have ho : okR E A E = true := by
    unfold okR heads
    rw [he, ha, decide_eq_true (by omega)]
    rfl
  refine ⟨ho, ?_⟩
  unfold remap
  rw [if_pos ho]
  have hn : E.length - 1 = A.length := by omega
  rw [hn]
  apply List.ext_getElem (by rw [rem_len])
  intro i h1 h2
  have g := rem_get E A E A.length i h2
  rw [bel_edge hf (i + 1) (by omega) A.length (Nat.le_refl _), bel_edge hf i (by omega) A.length (Nat.le_refl _), Nat.min_eq_right (by omega), Nat.min_eq_right (by omega)] at g
  have e1 : (rem E A E A.length).getD i 0 = (rem E A E A.length)[i] := by simp [List.getD_eq_getElem?_getD, h1]
  have e2 : A.getD i 0 = A[i] := by simp [List.getD_eq_getElem?_getD, h2]
  rw [← e1, ← e2, g]
  show tot A i + A.getD i 0 - tot A i = _
  omega
/-- nothing below nought, nothing too great -/
theorem remap_pos {E A T : List Int} (h : okR E A T = true) (i : Nat) (hi : i < (remap E A T).length) : 0 ≤ (remap E A T).getD i 0 ∧ (remap E A T).getD i 0 ≤ 300000000000000 := by
  obtain ⟨hf, h2, h3, _, ht, _, hl⟩ := okR_fit h
  unfold remap at hi ⊢
  rw [if_pos h] at hi ⊢
  rw [rem_len] at hi
  rw [rem_get E A T _ i hi]
  have tr := (okE_parts ht).2.2.2 i (by omega)
  have m := bel_mono hf (Int.le_of_lt tr) A.length (Nat.le_refl _)
  have b1 := bel_le hf (T.getD (i + 1) 0) A.length (Nat.le_refl _)
  have b2 := bel_le hf (T.getD i 0) A.length (Nat.le_refl _)
  have := hf.1
  omega
/-- edges that cover: as much together -/
theorem remap_sum {E A T : List Int} (h : okR E A T = true) (h0 : T.getD 0 0 ≤ E.getD 0 0) (h1 : E.getD (E.length - 1) 0 ≤ T.getD (T.length - 1) 0) : tot (remap E A T) (remap E A T).length = tot A A.length := by
  obtain ⟨hf, _⟩ := okR_fit h
  unfold remap
  rw [if_pos h, rem_len, tot_rem E A T _ _ (Nat.le_refl _), bel_none hf h0 _ (Nat.le_refl _), bel_all hf h1 _ (Nat.le_refl _)]
  omega
end Go.Proofs.Ytlcbahlplablmaa.Rm
