/- Certified: what is told, plain; the model. -/
import Derived.Test.YtaakiemmodncpaaCf
namespace Go.Proofs.Ytaakiemmodncpaa.Cf
open Go.ChangeShapes Go.WideShapes Go.ChangeAt Go.RowKit
open Go.Proofs.Ytaakiemmodncpaa.Lists Go.Proofs.Ytaakiemmodncpaa.Al Go.Proofs.Ytaakiemmodncpaa.Po Go.Proofs.Ytaakiemmodncpaa.Cs

def bad (n : Int) (G T : List Int) (R : Rw.Ls) (X : List Int) (i : Nat) (t : Int) : Bool := okC n G T R (mv X i t) && decide (cost G T R (mv X i t) G.length < cost G T R X G.length)
def cert (n : Int) (G T : List Int) (R : Rw.Ls) (X : List Int) : Bool := okC n G T R X && (List.range G.length).all (fun i => !bad n G T R X i (-1) && !bad n G T R X i 1)
section
variable {n : Int} {G T : List Int} {R : Rw.Ls} {X : List Int}
theorem okc_ok (h : okC n G T R X = true) : Ok G.length G T R ∧ Pt G.length X ∧ (G.length : Int) = n ∧ X.length = G.length := by
  unfold okC at h
  rw [Bool.and_eq_true] at h
  have O := ok_of h.1
  have P := pt_of (M := 200000) (by omega) O h.2
  have e := O.nG
  rw [← e] at O
  exact ⟨O, P, e, P.len⟩
theorem cost_nn (h : okC n G T R X = true) : 0 ≤ cost G T R X G.length := by
  obtain ⟨O, P, _, _⟩ := okc_ok h
  have a := ct_b O P G.length (Nat.le_refl _)
  have b := cr_b O P R.length (Nat.le_refl _)
  unfold cost
  omega
theorem cv_yes (h : okC n G T R X = true) : cv n G T R X = cost G T R X G.length := by unfold cv; rw [if_pos h]
theorem cv_no (h : okC n G T R X = false) : cv n G T R X = -1 := by unfold cv; rw [h]; rfl
theorem bad_iff (i : Nat) (t : Int) : bad n G T R X i t = true ↔ 0 ≤ cv n G T R (mv X i t) ∧ cv n G T R (mv X i t) < cost G T R X G.length := by
  unfold bad
  cases h : okC n G T R (mv X i t)
  · rw [cv_no h]; simp
  · rw [cv_yes h]; have := cost_nn h; simp; omega
theorem bad_zero {i : Nat} (hi : i < X.length) : bad n G T R X i 0 = false := by
  unfold bad
  rw [mv_zero X i hi]
  simp
theorem cert_no {i : Nat} {t : Int} (hi : i < G.length) (ht : t = -1 ∨ t = 1) (h : bad n G T R X i t = true) : cert n G T R X = false := by
  unfold cert
  have : (List.range G.length).all (fun i => !bad n G T R X i (-1) && !bad n G T R X i 1) = false := by
    rw [List.all_eq_false]
    refine ⟨i, List.mem_range.2 hi, ?_⟩
    rcases ht with rfl | rfl <;> simp [h]
  rw [this]
  simp
theorem cert_yes (h0 : okC n G T R X = true) (h : ∀ i, i < G.length → bad n G T R X i (-1) = false ∧ bad n G T R X i 1 = false) : cert n G T R X = true := by
  unfold cert
  rw [h0, Bool.true_and, List.all_eq_true]
  intro i hi
  obtain ⟨a, b⟩ := h i (List.mem_range.1 hi)
  simp [a, b]
theorem cert_ok (h : okC n G T R X = false) : cert n G T R X = false := by unfold cert; rw [h]; rfl
end

end Go.Proofs.Ytaakiemmodncpaa.Cf
