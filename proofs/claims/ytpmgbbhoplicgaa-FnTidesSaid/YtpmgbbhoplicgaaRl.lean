/- Lists of constituents alike but for which missing number: compared; the law of Rotate walked, what model and program answer as hypotheses. -/
import Derived.Test.YtpmgbbhoplicgaaCo
namespace Go.Proofs.Ytpmgbbhoplicgaa.Rl
open Go.ChangeShapes Go.WideShapes Go.ChangeAt Go.RowKit
open Go.Proofs.Ytpmgbbhoplicgaa.Flt Go.Proofs.Ytpmgbbhoplicgaa.Co
attribute [local go_sem] Co.run_store_float
theorem below_drewN {B : Nat} {a w : World} (h : Below B a w) (n : Nat) : Below B a (w.drewN n) := h.trans ⟨rfl, rfl, rfl, Nat.le_refl _, fun _ _ => rfl⟩
def Alike (L M : Ls) : Prop := L.length = M.length ∧ ∀ i, i < L.length → c0 L i = c0 M i ∧ cn (c1 L i) = cn (c1 M i) ∧ cn (c2 L i) = cn (c2 M i)
def Tells (L : Ls) (f : Nat → Int × Nat × Nat) (n : Nat) : Prop := L.length = n ∧ ∀ i, i < n → c0 L i = (f i).1 ∧ cn (c1 L i) = (f i).2.1 ∧ cn (c2 L i) = (f i).2.2
theorem Tells.alike {L M : Ls} {f : Nat → Int × Nat × Nat} {n : Nat} (h : Tells L f n) (h' : Tells M f n) : Alike L M := ⟨h.1.trans h'.1.symm, fun i hi => by
  rw [h.1] at hi
  obtain ⟨a, b, c⟩ := h.2 i hi
  obtain ⟨a', b', c'⟩ := h'.2 i hi
  exact ⟨a.trans a'.symm, b.trans b'.symm, c.trans c'.symm⟩⟩
end Go.Proofs.Ytpmgbbhoplicgaa.Rl
