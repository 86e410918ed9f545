/- What is stored keeps, for the law. -/
import Derived.Test.YtfnkcoppdelmjaaPo
import Derived.Test.YtfnkcoppdelmjaaAr
namespace Go.Proofs.Ytfnkcoppdelmjaa.Ix
open Go.ChangeShapes Go.WideShapes Go.ChangeAt Go.RowKit
open Al Eo Ky
theorem okS_parts {L : En.Ls} {e : En1} (h : okS L e = true) : okA L = true ∧ eo e = true ∧ (stL L e).length ≤ 300 := by
  unfold okS at h
  simp only [Bool.and_eq_true, decide_eq_true_eq] at h
  exact ⟨h.1.1, h.1.2, h.2⟩
theorem okA_of {L : En.Ls} {e : En1} (h : okS L e = true) : okA (stL L e) = true := by
  obtain ⟨ha, he, hl⟩ := okS_parts h
  obtain ⟨h1, h2, h3⟩ := (okA_iff L).1 ha
  refine (okA_iff _).2 ⟨hl, ?_, ?_⟩
  · intro x hx
    unfold stL at hx
    simp only [List.mem_append, List.mem_filter, List.mem_singleton] at hx
    rcases hx with (hx | rfl) | hx
    · exact h2 x hx.1
    · exact he
    · exact h2 x hx.1
  · unfold stL
    rw [List.pairwise_append, List.pairwise_append]
    refine ⟨⟨h3.filter _, List.pairwise_singleton _ _, ?_⟩, h3.filter _, ?_⟩
    · intro a ha b hb
      simp only [List.mem_filter, List.mem_singleton, decide_eq_true_eq] at ha hb
      subst hb
      exact ha.2
    · intro a ha b hb
      simp only [List.mem_append, List.mem_filter, List.mem_singleton, decide_eq_true_eq] at ha hb
      rcases ha with ha | rfl
      · exact ky_tr ha.2 hb.2
      · exact hb.2
theorem okS_again {L : En.Ls} {e : En1} (h : okS L e = true) : okS (stL L e) e = true := by
  have ha := okA_of h
  obtain ⟨_, he, hl⟩ := okS_parts h
  have he' : eok e.1 e.2.1 e.2.2.1 e.2.2.2.1 e.2.2.2.2 = true := he
  unfold okS
  rw [ha, he', st_again]
  simp [hl]
theorem drop_get (A : En.Ls) (k : Nat) (hk : k < A.length) : A.drop k = en A k :: A.drop (k + 1) := by
  rw [en_get A k hk, List.drop_eq_getElem_cons hk]
theorem okA_drop {A : En.Ls} (h : okA A = true) (k : Nat) : okA (A.drop k) = true := by
  obtain ⟨h1, h2, h3⟩ := (okA_iff A).1 h
  exact (okA_iff _).2 ⟨by simp; omega, fun x hx => h2 x (List.mem_of_mem_drop hx), h3.sublist (List.drop_sublist _ _)⟩
theorem st_drop {A : En.Ls} (h : okA A = true) (k : Nat) (hk : k < A.length) : stL (A.drop (k + 1)) (en A k) = A.drop k := by
  have h3 := ((okA_iff _).1 (okA_drop h k)).2.2
  rw [drop_get A k hk] at h3 ⊢
  exact st_front (List.pairwise_cons.1 h3).1
theorem okS_drop {A : En.Ls} (h : okA A = true) (k : Nat) (hk : k < A.length) : okS (A.drop (k + 1)) (en A k) = true := by
  have h1 := okA_drop h (k + 1)
  obtain ⟨hl, h2, _⟩ := (okA_iff A).1 h
  have he : eok (en A k).1 (en A k).2.1 (en A k).2.2.1 (en A k).2.2.2.1 (en A k).2.2.2.2 = true := h2 (en A k) (by rw [en_get A k hk]; exact List.getElem_mem hk)
  unfold okS
  rw [h1, he, st_drop h k hk]
  simp
  omega
theorem eo_size {e : En1} (h : eo e = true) : e.1.size ≤ 1048576 := by
  unfold eo eok pok at h
  simp only [Bool.and_eq_true, decide_eq_true_eq] at h
  have := h.1.2.2
  omega
theorem okR_own {e : En1} (h : eo e = true) : okR ([e.1], [e.2.1], [e.2.2.1], [e.2.2.2.1]) = true := by
  unfold eo eok at h
  simp only [Bool.and_eq_true] at h
  obtain ⟨h1, h2, h3, h4, _⟩ := h
  simp [okR, okP, okI, allP, allI, wP, wI, h1, h2, h3, h4, List.range_succ]
theorem okR_none : okR ([], [], [], []) = true := by
  simp [okR, okP, okI, allP, allI]
end Go.Proofs.Ytfnkcoppdelmjaa.Ix
