/- What memory holds beside: a table and two errors of the library. -/
import Derived.Test.YtilgifehilomgaaDoorRnK
import Derived.Lib.LaidTab
namespace Go.Proofs.YtilgifehilomgaaDoor.Dec
open Go.ChangeShapes Go.WideShapes Go.ChangeAt Go.RowKit Flt

def Tb (w : World) : Prop := Lib.TabIs Tryd.prog w "internal/strconv.uint64pow10" .u64 Lib.pow10Tab ∧ (∃ te pe, w.var? Tryd.prog "strconv.ErrSyntax" = some #[.iface te pe]) ∧ (∃ te pe, w.var? Tryd.prog "strconv.ErrRange" = some #[.iface te pe]) ∧ 4 < w.heap.size
theorem gP : Tryd.prog.globalNamed "internal/strconv.uint64pow10" = some 4 := by kernel_rfl
theorem gS : Tryd.prog.globalNamed "strconv.ErrSyntax" = some 2 := by kernel_rfl
theorem gR : Tryd.prog.globalNamed "strconv.ErrRange" = some 3 := by kernel_rfl
theorem Tb.keep (w w' : World) (h : Tb w) (hb : Below w.heap.size w w') : Tb w' := by
  obtain ⟨h1, ⟨te, pe, h2⟩, ⟨te', pe', h3⟩, h4⟩ := h
  exact ⟨var?_below hb gP h4 h1, ⟨te, pe, var?_below hb gS (by omega) h2⟩, ⟨te', pe', var?_below hb gR (by omega) h3⟩, Nat.lt_of_lt_of_le h4 hb.size⟩
theorem lib : LibC Tb := libC Tb Tb.keep (fun _ h => h.1)
theorem errs : Errs Tb where
  syn := fun w h => by
    obtain ⟨te, pe, h2⟩ := h.2.1
    exact ⟨te, pe, by have h0 := World.var?_cell gS h2 0; simpa using h0⟩
  rng := fun w h => by
    obtain ⟨te, pe, h2⟩ := h.2.2.1
    exact ⟨te, pe, by have h0 := World.var?_cell gR h2 0; simpa using h0⟩

end Go.Proofs.YtilgifehilomgaaDoor.Dec
