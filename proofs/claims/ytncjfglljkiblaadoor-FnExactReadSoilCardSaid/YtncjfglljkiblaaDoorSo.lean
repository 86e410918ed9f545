/- Soils: copied and compared by the law; the program's steps. -/
import Derived.Test.YtncjfglljkiblaaDoorRows
import Derived.WalkKit
import Derived.ProofKit
import Derived.Below
import Derived.OwnWalk
import Derived.Deep.RegionHeld3
import Derived.BigRegion
namespace Go.Proofs.YtncjfglljkiblaaDoor.So
open Go.ChangeShapes Go.WideShapes Go.ChangeAt Go.RowKit

abbrev sv (a b c d e : Int) : Value := .agg #[.int .i64 a, .int .i64 b, .int .i64 c, .int .i64 d, .int .i64 e]

set_option maxHeartbeats 1000000 in
theorem eq_any (a b c d f : Int) (w : World) : Calls Tryd.prog 6 #[sv a b c d f, sv a b c d f] w fun e w' => e = .returned (.bool true) ∧ Below w.heap.size w w' := by
  have hii : ∀ b : Int, (b != b) = false := fun b => by simp
  go_enter Tryd.func6, Tryd.ntmps6
  go_wp2_with fail
  go_ret
  refine ⟨rfl, ?_⟩
  repeat' first | exact Below.refl _ _ | refine Below.setCell ?_ (by simp <;> omega) _ | refine Below.alloc ?_ (by simp <;> omega) _

theorem tdiv_pos {a : Int} (h : 0 ≤ a) (k : Int) : a.tdiv k = a / k := Int.tdiv_eq_ediv_of_nonneg h

def ml (a t : Int) : Int := min a (3 * t / 10)
def dr (b t : Int) : Int := min b (t / 20)
end Go.Proofs.YtncjfglljkiblaaDoor.So
