/- The law of soil texts walked. -/
import Derived.Test.YtgimdhdioigmiaaDoorStJ
namespace Go.Proofs.YtgimdhdioigmiaaDoor.So
open Go.ChangeShapes Go.WideShapes Go.ChangeAt Go.RowKit

def txt (a b c d f : Int) : List UInt8 := if okB a b c d f then tx a b c d f else []
theorem itext_any (a b c d f : Int) (w : World) (hT : Tb w) : Calls Tryd.prog 9 #[sv a b c d f] w fun e w' => e = .returned (.string ⟨(txt a b c d f).toArray⟩) ∧ Below w.heap.size w w' := by
  unfold txt
  cases h : okB a b c d f
  · exact itext_no a b c d f w h
  · exact itext_yes a b c d f w hT h

end Go.Proofs.YtgimdhdioigmiaaDoor.So
