/- The flow, plain: as the program makes it, as the model makes it; they end alike. -/
import Derived.Test.YtjhoagbcfpbelaaFsD
namespace Go.Proofs.Ytjhoagbcfpbelaa.Fs
/-- what cell c has -/
def hs (W R : List Int) (c : Nat) : Int := W.getD c 0 + R.getD c 0
/-- what goes on from it -/
def hf (W R : List Int) (c : Nat) : Int := hs W R c - hs W R c / 2
/-- x more at place j -/
def up (L : List Int) (j : Nat) (x : Int) : List Int := L.set j (L.getD j 0 + x)
theorem up_len (L : List Int) (j : Nat) (x : Int) : (up L j x).length = L.length := by simp [up]
theorem up_get (L : List Int) (j : Nat) (x : Int) (i : Nat) (hi : i < L.length) : (up L j x).getD i 0 = L.getD i 0 + if i = j then x else 0 := by
  unfold up
  by_cases e : i = j
  · subst e
    simp [List.getD_eq_getElem?_getD, hi]
  · have e' : j ≠ i := fun h => e h.symm
    simp [List.getD_eq_getElem?_getD, e, e']
/-- one round of the program -/
def pst (N W R : List Int) (s : List Int × Int) (c : Nat) : List Int × Int :=
  if N.getD c 0 = -1 then (up s.1 c (hs W R c / 2), s.2 + hf W R c) else (up (up s.1 c (hs W R c / 2)) (N.getD c 0).toNat (hf W R c), s.2)
/-- one round of the model -/
def qst (N W R : List Int) (s : List Int × Int) (c : Nat) : List Int × Int :=
  if N.getD c 0 < 0 then (up s.1 c (- hf W R c), s.2 + hf W R c) else (up (up s.1 c (- hf W R c)) (N.getD c 0).toNat (hf W R c), s.2)
def pfl (N W R : List Int) (out : Int) (k : Nat) : List Int × Int := (List.range k).foldl (pst N W R) (List.replicate N.length 0, out)
def qfl (N W R : List Int) (out : Int) (k : Nat) : List Int × Int := (List.range k).foldl (qst N W R) ((List.range N.length).map (hs W R), out)
theorem pfl_succ (N W R : List Int) (out : Int) (k : Nat) : pfl N W R out (k + 1) = pst N W R (pfl N W R out k) k := by
  unfold pfl
  rw [List.range_succ, List.foldl_append]
  rfl
theorem qfl_succ (N W R : List Int) (out : Int) (k : Nat) : qfl N W R out (k + 1) = qst N W R (qfl N W R out k) k := by
  unfold qfl
  rw [List.range_succ, List.foldl_append]
  rfl
theorem same (N W R : List Int) (out : Int) (hv : ∀ c, c < N.length → -1 ≤ N.getD c 0 ∧ N.getD c 0 < N.length) : ∀ k, k ≤ N.length →
    (pfl N W R out k).1.length = N.length ∧ (qfl N W R out k).1.length = N.length ∧ (pfl N W R out k).2 = (qfl N W R out k).2 ∧
    ∀ j, j < N.length → (qfl N W R out k).1.getD j 0 = (pfl N W R out k).1.getD j 0 + if j < k then 0 else hs W R j
  | 0, _ => by
    refine ⟨by simp [pfl], by simp [qfl], rfl, fun j hj => ?_⟩
    simp [pfl, qfl, List.getD_eq_getElem?_getD, hj]
  | k + 1, hk => by
    obtain ⟨l1, l2, eo, ih⟩ := same N W R out hv k (by omega)
    have hvk := hv k (by omega)
    rw [pfl_succ, qfl_succ]
    generalize pfl N W R out k = P at *
    generalize qfl N W R out k = Q at *
    unfold pst qst
    by_cases e : N.getD k 0 = -1
    · have e2 : N.getD k 0 < 0 := by omega
      rw [if_pos e, if_pos e2]
      refine ⟨by rw [up_len]; exact l1, by rw [up_len]; exact l2, by show P.2 + _ = Q.2 + _; rw [eo], fun j hj => ?_⟩
      show (up Q.1 k _).getD j 0 = (up P.1 k _).getD j 0 + _
      rw [up_get _ _ _ _ (by omega), up_get _ _ _ _ (by omega), ih j hj]
      unfold hf
      by_cases ejk : j = k
      · subst ejk
        simp
        omega
      · by_cases hjk : j < k
        · simp [ejk, hjk, show j < k + 1 by omega]
        · simp [ejk, hjk, show ¬ j < k + 1 by omega]
    · have e2 : ¬ N.getD k 0 < 0 := by omega
      rw [if_neg e, if_neg e2]
      refine ⟨by rw [up_len, up_len]; exact l1, by rw [up_len, up_len]; exact l2, eo, fun j hj => ?_⟩
      show (up (up Q.1 k _) _ _).getD j 0 = (up (up P.1 k _) _ _).getD j 0 + _
      rw [up_get _ _ _ _ (by rw [up_len]; omega), up_get _ _ _ _ (by omega), up_get _ _ _ _ (by rw [up_len]; omega), up_get _ _ _ _ (by omega), ih j hj]
      generalize (if j = (N.getD k 0).toNat then hf W R k else 0) = y
      unfold hf
      by_cases ejk : j = k
      · subst ejk
        simp
        omega
      · by_cases hjk : j < k
        · simp [ejk, hjk, show j < k + 1 by omega]
        · simp [ejk, hjk, show ¬ j < k + 1 by omega]
          omega
theorem flows (N W R : List Int) (out : Int) (hv : ∀ c, c < N.length → -1 ≤ N.getD c 0 ∧ N.getD c 0 < N.length) : qfl N W R out N.length = pfl N W R out N.length := by
  obtain ⟨l1, l2, eo, ih⟩ := same N W R out hv N.length (Nat.le_refl _)
  refine Prod.ext ?_ eo.symm
  apply List.ext_getElem (by rw [l1, l2])
  intro i h1 h2
  have := ih i (by omega)
  rw [if_pos (by omega)] at this
  simpa [List.getD_eq_getElem?_getD, h1, h2] using this
end Go.Proofs.Ytjhoagbcfpbelaa.Fs
