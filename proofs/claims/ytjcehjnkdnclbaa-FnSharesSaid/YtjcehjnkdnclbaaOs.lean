/- Order statistics, plainly; how many are not above a number; the model. -/
import Derived.Test.YtjcehjnkdnclbaaSx
namespace Go.Proofs.Ytjcehjnkdnclbaa.Os
open Go.ChangeShapes Go.WideShapes Go.ChangeAt Go.RowKit
open Go.Proofs.Ytjcehjnkdnclbaa.Lists Go.Proofs.Ytjcehjnkdnclbaa.Al Go.Proofs.Ytjcehjnkdnclbaa.Se

def cle (L : List Int) (x : Int) : Nat → Int
  | 0 => 0
  | k + 1 => cle L x k + if L.getD k 0 ≤ x then 1 else 0
theorem cle_bd (L : List Int) (x : Int) (k : Nat) : 0 ≤ cle L x k ∧ cle L x k ≤ k := by
  induction k with
  | zero => simp [cle]
  | succ k ih => unfold cle; split <;> omega
theorem cle_take (L : List Int) (x : Int) : ∀ k, k ≤ L.length → cle L x k = ((L.take k).countP (fun y => decide (y ≤ x)) : Int) := by
  intro k
  induction k with
  | zero => intro _; simp [cle]
  | succ k ih =>
    intro hk
    unfold cle
    rw [ih (by omega), List.take_add_one, List.countP_append]
    have e : L[k]? = some (L.getD k 0) := by simp [List.getD_eq_getElem?_getD, List.getElem?_eq_getElem (show k < L.length by omega)]
    rw [e]
    generalize L.getD k 0 = z
    by_cases h : z ≤ x
    · simp [h]
    · simp [h]
theorem cle_all (L : List Int) (x : Int) : cle L x L.length = (L.countP (fun y => decide (y ≤ x)) : Int) := by
  rw [cle_take L x L.length (Nat.le_refl _), List.take_length]
def Stat (L : List Int) (k r : Int) : Prop := r ∈ L ∧ k ≤ cle L r L.length ∧ ∀ x ∈ L, k ≤ cle L x L.length → r ≤ x
def srt (L : List Int) : List Int := L.mergeSort fun x y => decide (x ≤ y)
theorem srt_perm (L : List Int) : (srt L).Perm L := List.mergeSort_perm _ _
theorem srt_len (L : List Int) : (srt L).length = L.length := (srt_perm L).length_eq
theorem srt_up (L : List Int) (i j : Nat) (hj : j < (srt L).length) (hij : i ≤ j) : (srt L)[i]'(by omega) ≤ (srt L)[j] := by
  by_cases e : i = j
  · subst e; omega
  · have h := List.pairwise_iff_getElem.1 (List.pairwise_mergeSort (le := fun x y : Int => decide (x ≤ y)) (fun a b c h1 h2 => by simp at h1 h2 ⊢; omega) (fun a b => by simp; omega) L) i j (by unfold srt at hj; omega) hj (by omega)
    exact of_decide_eq_true h
theorem stat_srt (L : List Int) (k : Nat) (h1 : 1 ≤ k) (h2 : k ≤ L.length) : Stat L (k : Int) ((srt L).getD (k - 1) 0) := by
  have hk : k - 1 < (srt L).length := by rw [srt_len]; omega
  have e : (srt L).getD (k - 1) 0 = (srt L)[k - 1] := by simp [List.getD_eq_getElem?_getD, hk]
  rw [e]
  have hc : ∀ x, cle L x L.length = ((srt L).countP (fun y => decide (y ≤ x)) : Int) := fun x => by rw [cle_all, (srt_perm L).countP_eq]
  refine ⟨(srt_perm L).mem_iff.1 (List.getElem_mem hk), ?_, fun x hx hkx => ?_⟩
  · rw [hc]
    have a : ((srt L).take k).countP (fun y => decide (y ≤ (srt L)[k - 1])) = ((srt L).take k).length := List.countP_eq_length.2 fun y hy => by
      obtain ⟨j, hj, rfl⟩ := List.mem_take_iff_getElem.1 hy
      have := srt_up L j (k - 1) hk (by omega)
      simpa using this
    have b : (srt L).countP (fun y => decide (y ≤ (srt L)[k - 1])) = ((srt L).take k).countP (fun y => decide (y ≤ (srt L)[k - 1])) + ((srt L).drop k).countP (fun y => decide (y ≤ (srt L)[k - 1])) := by rw [← List.countP_append, List.take_append_drop]
    have c : ((srt L).take k).length = k := by rw [List.length_take, srt_len]; omega
    omega
  · rw [hc] at hkx
    by_cases hlt : (srt L)[k - 1] ≤ x
    · exact hlt
    · have a : ((srt L).drop (k - 1)).countP (fun y => decide (y ≤ x)) = 0 := List.countP_eq_zero.2 fun y hy => by
        obtain ⟨j, hj, rfl⟩ := List.mem_drop_iff_getElem.1 hy
        have := srt_up L (k - 1) (k - 1 + j) (by omega) (by omega)
        simp
        omega
      have b : (srt L).countP (fun y => decide (y ≤ x)) = ((srt L).take (k - 1)).countP (fun y => decide (y ≤ x)) + ((srt L).drop (k - 1)).countP (fun y => decide (y ≤ x)) := by rw [← List.countP_append, List.take_append_drop]
      have c : ((srt L).take (k - 1)).countP (fun y => decide (y ≤ x)) ≤ ((srt L).take (k - 1)).length := List.countP_le_length
      have d : ((srt L).take (k - 1)).length = k - 1 := by rw [List.length_take, srt_len]; omega
      omega
/- what the model's loop keeps; G tells what is asked of a count -/
def Bst (L : List Int) (G : Int → Prop) (i : Nat) (m : Int) : Prop := (m = 100001 ∨ (m ∈ L ∧ G (cle L m L.length))) ∧ (∀ j, j < i → G (cle L (L.getD j 0) L.length) → m ≤ L.getD j 0)
theorem getD_mem {L : List Int} {j : Nat} (h : j < L.length) : L.getD j 0 ∈ L := by simp [List.getD_eq_getElem?_getD, h]
theorem Bst.zero (L : List Int) (G : Int → Prop) : Bst L G 0 100001 := ⟨Or.inl rfl, fun j h => by omega⟩
theorem Bst.take {L : List Int} {G : Int → Prop} {i : Nat} {m : Int} (h : Bst L G i m) (hi : i < L.length) (hg : G (cle L (L.getD i 0) L.length)) (hm : L.getD i 0 < m) : Bst L G (i + 1) (L.getD i 0) := by
  refine ⟨Or.inr ⟨getD_mem hi, hg⟩, fun j hj hgj => ?_⟩
  by_cases e : j = i
  · subst e; omega
  · have := h.2 j (by omega) hgj; omega
theorem Bst.stay {L : List Int} {G : Int → Prop} {i : Nat} {m : Int} (h : Bst L G i m) (hs : ¬ L.getD i 0 < m ∨ ¬ G (cle L (L.getD i 0) L.length)) : Bst L G (i + 1) m := by
  refine ⟨h.1, fun j hj hgj => ?_⟩
  by_cases e : j = i
  · subst e
    rcases hs with x | x
    · omega
    · exact absurd hgj x
  · exact h.2 j (by omega) hgj
theorem Bst.all {L : List Int} {G : Int → Prop} {m k r : Int} (h : Bst L G L.length m) (hG : ∀ c, G c ↔ k ≤ c) (hs : Stat L k r) (hb : ∀ x ∈ L, x ≤ 100000) : m = r := by
  obtain ⟨s1, s2, s3⟩ := hs
  obtain ⟨j, hj, rfl⟩ := List.getElem_of_mem s1
  have e : L.getD j 0 = L[j] := by simp [List.getD_eq_getElem?_getD, hj]
  have a := h.2 j hj (by rw [e, hG]; exact s2)
  rw [e] at a
  have b := hb _ s1
  rcases h.1 with rfl | ⟨m1, m2⟩
  · omega
  · have c := s3 m m1 ((hG _).1 m2)
    omega
theorem okS_le {L : List Int} (h : okS L = true) : ∀ x ∈ L, x ≤ 100000 := fun x hx => by
  obtain ⟨_, _, hz⟩ := okS_parts h
  obtain ⟨j, hj, rfl⟩ := List.getElem_of_mem hx
  have := hz j hj
  simp [List.getD_eq_getElem?_getD, hj] at this
  omega
/- shares: the fewest that are so many by den -/
def few (num n den : Int) : Int := (num * n + den - 1).tdiv den
theorem few_iff {num n den : Int} (h1 : 1 ≤ num) (h2 : num ≤ den) (hn : 1 ≤ n) (c : Int) : num * n ≤ c * den ↔ few num n den ≤ c := by
  have hp : 0 < num * n := Int.mul_pos (by omega) (by omega)
  unfold few
  rw [Int.tdiv_eq_ediv_of_nonneg (by omega)]
  constructor
  · intro h
    have : (num * n + den - 1) / den < c + 1 := Int.ediv_lt_of_lt_mul (by omega) (by rw [Int.add_mul]; omega)
    omega
  · intro h
    have a := Int.mul_le_mul_of_nonneg_right h (by omega : (0 : Int) ≤ den)
    have b := Int.lt_ediv_add_one_mul_self (num * n + den - 1) (by omega : 0 < den)
    rw [Int.add_mul] at b
    omega
theorem few_bd {num n den : Int} (h1 : 1 ≤ num) (h2 : num ≤ den) (hn : 1 ≤ n) : 1 ≤ few num n den ∧ few num n den ≤ n := by
  have hp : 0 < num * n := Int.mul_pos (by omega) (by omega)
  constructor
  · by_cases h : 1 ≤ few num n den
    · exact h
    · have := (few_iff h1 h2 hn 0).2 (by omega)
      omega
  · have hle : num * n ≤ n * den := by rw [Int.mul_comm n den]; exact Int.mul_le_mul_of_nonneg_right h2 (by omega)
    exact (few_iff h1 h2 hn n).1 hle
end Go.Proofs.Ytjcehjnkdnclbaa.Os
