/- Upper: the law, at every text. -/
import Derived.Test.YtcfhfkoiiehhiaaUpL
import Derived.Test.YtcfhfkoiiehhiaaRunf
namespace Go.Proofs.Ytcfhfkoiiehhiaa.Ru
open Go.RowKit

theorem upperLaw {P : Prop} (s : ByteArray) (w : World) (_ : P) : Calls Try.prog 3 #[.string s] w fun e w' => e = .returned (.bool true) ∧ Below w.heap.size w w' :=
  upperLaw' s w fun h p w hp => rune_any s p w (by omega) hp
end Go.Proofs.Ytcfhfkoiiehhiaa.Ru
