/- What is stored keeps an archive sound. -/
import Derived.Test.YtfnkcoppdelmjaaSp
namespace Go.Proofs.Ytfnkcoppdelmjaa.Ky
open Go.ChangeShapes Go.WideShapes Go.ChangeAt Go.RowKit
open Al Eo
theorem ky_tr {a b d : En1} (h1 : ky a b < 0) (h2 : ky b d < 0) : ky a d < 0 := by
  obtain ⟨h, g⟩ := ky_cmp.trans a b d (by omega) (by omega)
  by_cases e : ky a d = 0
  · have := (g e).1; omega
  · omega
def eo (x : En1) : Bool := eok x.1 x.2.1 x.2.2.1 x.2.2.2.1 x.2.2.2.2
theorem alls_iff (L : En.Ls) : alls L L.length = true ↔ ∀ x ∈ L, eo x = true := by
  have hg : ∀ i (h : i < L.length), ek L i = eo L[i] := fun i h => by rw [← en_get L i h]; rfl
  unfold alls
  rw [List.all_eq_true]
  constructor
  · intro H x hx
    obtain ⟨i, hi, rfl⟩ := List.getElem_of_mem hx
    rw [← hg i hi]
    exact H i (by simpa using hi)
  · intro H i hi
    have hi' : i < L.length := by simpa using hi
    rw [hg i hi']
    exact H _ (List.getElem_mem hi')
theorem riss_iff (L : En.Ls) : riss L L.length = true ↔ L.Pairwise (fun a b => ky a b < 0) := by
  rw [List.pairwise_iff_getElem]
  unfold riss
  rw [List.all_eq_true]
  constructor
  · intro H i j hi hj hij
    have step : ∀ k (hk : k + 1 < L.length), ky (L[k]'(by omega)) L[k + 1] < 0 := by
      intro k hk
      have := H (k + 1) (by simpa using hk)
      unfold rs at this
      simp at this
      rwa [en_get L k (by omega), en_get L (k + 1) hk] at this
    have main : ∀ d (h : i + d + 1 < L.length), ky L[i] (L[i + d + 1]'h) < 0 := by
      intro d
      induction d with
      | zero => exact fun h => step i h
      | succ d ih => exact fun h => ky_tr (ih (by omega)) (step (i + d + 1) (by omega))
    have := main (j - i - 1) (by omega)
    have e : i + (j - i - 1) + 1 = j := by omega
    simp only [e] at this
    exact this
  · intro H i hi
    have hi' : i < L.length := by simpa using hi
    unfold rs
    by_cases e : i = 0
    · simp [e]
    · simp only [e, decide_false, Bool.false_or, decide_eq_true_eq]
      rw [en_get L i hi', en_get L (i - 1) (by omega)]
      exact H (i - 1) i (by omega) hi' (by omega)
theorem okA_iff (L : En.Ls) : okA L = true ↔ L.length ≤ 300 ∧ (∀ x ∈ L, eo x = true) ∧ L.Pairwise (fun a b => ky a b < 0) := by
  unfold okA okE
  simp only [Bool.and_eq_true, decide_eq_true_eq]
  rw [alls_iff, riss_iff]
  exact and_assoc
theorem st_le (L : En.Ls) (e : En1) : (stL L e).length ≤ L.length + 1 := by
  have hh : ∀ M : En.Ls, (M.filter (fun x => decide (ky x e < 0))).length + (M.filter (fun x => decide (ky e x < 0))).length ≤ M.length := by
    intro M
    induction M with
    | nil => simp
    | cons a M ih =>
      have an := ky_cmp.anti a e
      by_cases h1 : ky a e < 0
      · have h2 : ¬ ky e a < 0 := by omega
        simp [h1, h2]; omega
      · by_cases h2 : ky e a < 0
        · simp [h1, h2]; omega
        · simp [h1, h2]; omega
  have := hh L
  unfold stL
  simp
  omega
theorem okA_st {L : En.Ls} {e : En1} (h : okA L = true) (he : eo e = true) (hl : L.length < 300) : okS L e = true ∧ okA (stL L e) = true := by
  have hs := st_le L e
  obtain ⟨h1, h2, h3⟩ := (okA_iff L).1 h
  refine ⟨?_, (okA_iff _).2 ⟨by omega, ?_, ?_⟩⟩
  · unfold okS
    have he' : eok e.1 e.2.1 e.2.2.1 e.2.2.2.1 e.2.2.2.2 = true := he
    rw [h, he']
    simp
    omega
  · intro x hx
    unfold stL at hx
    simp only [List.mem_append, List.mem_filter, List.mem_singleton] at hx
    rcases hx with (hx | rfl) | hx
    · exact h2 x hx.1
    · exact he
    · exact h2 x hx.1
  · unfold stL
    rw [List.pairwise_append, List.pairwise_append]
    refine ⟨⟨h3.filter _, List.pairwise_singleton _ _, ?_⟩, h3.filter _, ?_⟩
    · intro a ha b hb
      simp only [List.mem_filter, List.mem_singleton, decide_eq_true_eq] at ha hb
      subst hb
      exact ha.2
    · intro a ha b hb
      simp only [List.mem_append, List.mem_filter, List.mem_singleton, decide_eq_true_eq] at ha hb
      rcases ha with ha | rfl
      · exact ky_tr ha.2 hb.2
      · exact hb.2
theorem st_ne (L : En.Ls) (e : En1) : 0 < (stL L e).length := by unfold stL; simp; omega
end Go.Proofs.Ytfnkcoppdelmjaa.Ky
