/- The law FnExactAscentOk walked. -/
import Derived.Test.YtjnjpbbpphklhaaLvE
namespace Go.Proofs.Ytjnjpbbpphklhaa.Flt
open Go.ChangeShapes Go.WideShapes Go.ChangeAt Go.RowKit
attribute [local go_sem] run_store_float

theorem sok_any (w : World) (v : Value) (L : Lv) (h : Reads w v L) : Calls Try.prog 20 #[v] w fun e w' => e = .returned (.bool (lok L)) ∧ Below w.heap.size w w' := by
  by_cases h1 : 2 ≤ L.length ∧ L.length ≤ 400
  · exact sok_long w v L h h1.1 h1.2
  · exact sok_short w v L h (by omega)
theorem iok_any (w : World) (v : Value) (L : Lv) (h : Reads w v L) (hm : L.length ≤ 1048576) : Calls Try.prog 16 #[v] w fun e w' => e = .returned (.bool (lok L)) ∧ Below w.heap.size w w' := by
  by_cases h1 : 2 ≤ L.length ∧ L.length ≤ 400
  · exact iok_long w v L h h1.1 h1.2
  · exact iok_short w v L h (by omega) hm

theorem Reads.fits {w : World} {v : Value} {L : Lv} (h : Reads w v L) : L.length < 9223372036854775808 := by
  rcases h with ⟨rfl, _⟩ | ⟨b, o, c, _, h1, h2, _⟩
  · decide
  · unfold maxLen at h2; omega

end Go.Proofs.Ytjnjpbbpphklhaa.Flt
