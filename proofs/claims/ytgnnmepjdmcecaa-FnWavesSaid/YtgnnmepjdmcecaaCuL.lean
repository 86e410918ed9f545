/- The law FnExactCut walked; what model and program answer comes in as hypotheses. -/
import Derived.Test.YtgnnmepjdmcecaaPr
namespace Go.Proofs.Ytgnnmepjdmcecaa.Cu
open Go.ChangeShapes Go.WideShapes Go.ChangeAt Go.RowKit
attribute [local go_sem] Pr.run_store_float

theorem below_drewN {B : Nat} {a w : World} (h : Below B a w) (n : Nat) : Below B a (w.drewN n) := h.trans ⟨rfl, rfl, rfl, Nat.le_refl _, fun _ _ => rfl⟩
end Go.Proofs.Ytgnnmepjdmcecaa.Cu
