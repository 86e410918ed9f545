/- Lists of pairs alike but for which missing number: compared; the laws of Waves and Unwaves walked, what model and program answer as hypotheses. -/
import Derived.Test.YtgnnmepjdmcecaaPr
namespace Go.Proofs.Ytgnnmepjdmcecaa.Wl
open Go.ChangeShapes Go.WideShapes Go.ChangeAt Go.RowKit
open Go.Proofs.Ytgnnmepjdmcecaa.Flt Go.Proofs.Ytgnnmepjdmcecaa.Pr
attribute [local go_sem] Pr.run_store_float
theorem below_drewN {B : Nat} {a w : World} (h : Below B a w) (n : Nat) : Below B a (w.drewN n) := h.trans ⟨rfl, rfl, rfl, Nat.le_refl _, fun _ _ => rfl⟩
def Alike (L M : Ls) : Prop := L.length = M.length ∧ ∀ i, i < L.length → cn (c0 L i) = cn (c0 M i) ∧ cn (c1 L i) = cn (c1 M i)
/-- a list that tells these numbers, but for which missing number -/
def Tells (L : Ls) (f : Nat → Nat × Nat) (n : Nat) : Prop := L.length = n ∧ ∀ i, i < n → cn (c0 L i) = (f i).1 ∧ cn (c1 L i) = (f i).2
theorem Tells.alike {L M : Ls} {f : Nat → Nat × Nat} {n : Nat} (h : Tells L f n) (h' : Tells M f n) : Alike L M := ⟨h.1.trans h'.1.symm, fun i hi => by
  rw [h.1] at hi
  exact ⟨(h.2 i hi).1.trans (h'.2 i hi).1.symm, (h.2 i hi).2.trans (h'.2 i hi).2.symm⟩⟩
end Go.Proofs.Ytgnnmepjdmcecaa.Wl
