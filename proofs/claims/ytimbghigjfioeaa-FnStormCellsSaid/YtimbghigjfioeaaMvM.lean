/- Moved: the model and the program at all boxes. -/
import Derived.Test.YtimbghigjfioeaaMvB
namespace Go.Proofs.Ytimbghigjfioeaa.Mv
open Go.ChangeShapes Go.WideShapes Go.ChangeAt Go.RowKit
open Go.Proofs.Ytimbghigjfioeaa.Lists

def okM (r c : Int) (L : List Int) (r' c' : Int) (M : List Int) : Bool := Bx.okB r c L && (Bx.okB r' c' M && (decide (r = r') && decide (c = c')))

theorem size_of {r c : Int} {L : List Int} (h : Bx.okB r c L = true) : (1 ≤ r ∧ r ≤ 24) ∧ (1 ≤ c ∧ c ≤ 24) ∧ (L.length : Int) = r * c := by
  unfold Bx.okB Bx.heads at h
  simp only [Bool.and_eq_true, decide_eq_true_eq, Bx.inn_iff] at h
  exact ⟨h.1.1, h.1.2.1, h.1.2.2⟩

theorem okM_of {r c r' c' : Int} {L M : List Int} (h : okM r c L r' c' M = true) : Bx.okB r c L = true ∧ Bx.okB r' c' M = true ∧ r = r' ∧ c = c' := by
  unfold okM at h
  simp only [Bool.and_eq_true, decide_eq_true_eq] at h
  exact ⟨h.1, h.2.1, h.2.2.1, h.2.2.2⟩
end Go.Proofs.Ytimbghigjfioeaa.Mv
