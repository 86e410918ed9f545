/- The law of NewCentre at an argument that is opened. -/
import Derived.Test.YtmmhmbbfeecloaaNl
import Derived.Test.YtmmhmbbfeecloaaRtArg
namespace Go.Proofs.Ytmmhmbbfeecloaa.Nc
open Go.ChangeShapes Go.WideShapes Go.ChangeAt Go.RowKit
theorem fit_of {L : Rt.Ls} (h : Rt.FitA L) : Rt.Fit L := by
  intro i hi
  have e : Rt.c0 L i = (L[i]).1 := by simp [Rt.c0, List.getD_eq_getElem?_getD, hi]
  rw [e]
  exact h _ (List.getElem_mem hi)
theorem ncAll (w : World) (v : Value) (L : Rt.Ls) (h : Rt.Reads w v L) (hf : Rt.FitA L) :
    Calls Try.prog 3 #[v] w fun e w' => e = .returned (.bool true) ∧ Below w.heap.size w w' := ncLaw v L w h (fit_of hf)
end Go.Proofs.Ytmmhmbbfeecloaa.Nc
