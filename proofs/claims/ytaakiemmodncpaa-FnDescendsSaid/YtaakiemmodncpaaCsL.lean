/- The law walked; what model and program answer comes in as hypotheses. -/
import Derived.Test.YtaakiemmodncpaaPb
import Derived.Deep.RegionHeld3
namespace Go.Proofs.Ytaakiemmodncpaa.LawCsL
open Go.ChangeShapes Go.WideShapes Go.ChangeAt Go.RowKit
open Go.Proofs.Ytaakiemmodncpaa.Lists
def PR (w : World) (G T : List Int) (R : Rw.Ls) (g t r : Value) : Prop := Lists.Reads w g G ∧ Lists.Reads w t T ∧ Rw.Reads w r R
theorem PR.on {w w' : World} {G T : List Int} {R : Rw.Ls} {g t r : Value} (h : PR w G T R g t r) (hb : Below w.heap.size w w') : PR w' G T R g t r := ⟨h.1.on hb, h.2.1.on hb, h.2.2.on hb⟩
theorem below_drewN {B : Nat} {a w : World} (h : Below B a w) (n : Nat) : Below B a (w.drewN n) := h.trans ⟨rfl, rfl, rfl, Nat.le_refl _, fun _ _ => rfl⟩
end Go.Proofs.Ytaakiemmodncpaa.LawCsL
