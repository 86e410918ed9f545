/- Winds: the program at every loop; the law. -/
import Derived.Test.YtaemldfeicjdnaaIlE
namespace Go.Proofs.Ytaemldfeicjdnaa.Lp
open Go.ChangeShapes Go.WideShapes Go.ChangeAt Go.RowKit
open Go.Proofs.Ytaemldfeicjdnaa.Lists
theorem iwinds_any (x y : Int) (L : List Int) (v : Value) (ii jj : Int) (w : World) (hL : Lists.Reads w v L) (hf : L.length < 9223372036854775808) :
    Calls Try.prog 22 #[sv x y v, .int .i64 ii, .int .i64 jj] w fun e w' => e = .returned (.int .i64 (wd (wayL x y L) ii jj (wayL x y L).length)) ∧ Below w.heap.size w w' := by
  unfold wayL
  cases h : okL x y L
  · exact iwinds_no x y L v ii jj w hL hf h
  · obtain ⟨a, cap, rfl⟩ := hL.form
    simp only [if_true, way_len]
    exact iwinds_yes x y L a cap ii jj w hL hf h
theorem windsAll (w : World) (x y : Int) (v : Value) (L : List Int) (hL : Lists.Reads w v L) (hf : L.length < 9223372036854775808) (ii jj : Int) :
    Calls Try.prog 6 #[sv x y v, .int .i64 ii, .int .i64 jj] w fun e w' => e = .returned (.bool true) ∧ Below w.heap.size w w' :=
  windsLaw x y L v ii jj w hL hf (fun w v h => swinds_any x y L v ii jj w h hf) (fun w v h _ => iwinds_any x y L v ii jj w h hf)
end Go.Proofs.Ytaemldfeicjdnaa.Lp
