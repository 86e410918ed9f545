/- Where an edge leads; whether a loop is right: the model. -/
import Derived.Test.YtaemldfeicjdnaaLp
import Derived.Test.YtaemldfeicjdnaaEg
namespace Go.Proofs.Ytaemldfeicjdnaa.Lp
open Go.ChangeShapes Go.WideShapes Go.ChangeAt Go.RowKit
open Go.Proofs.Ytaemldfeicjdnaa.Lists

def dx (d : Int) : Int := if d = 0 then 1 else if d = 2 then -1 else 0
def dy (d : Int) : Int := if d = 1 then 1 else if d = 3 then -1 else 0
set_option maxHeartbeats 1000000 in
theorem ahead_any (x y d : Int) (w : World) (h0 : 0 ≤ d) (h3 : d ≤ 3) (hx : -2000000 ≤ x ∧ x ≤ 2000000) (hy : -2000000 ≤ y ∧ y ≤ 2000000) :
    Calls Try.prog 35 #[.agg #[.int .i64 x, .int .i64 y, .int .i64 d]] w fun e w' => e = .returned (.tuple #[.int .i64 (x + dx d), .int .i64 (y + dy d)]) ∧ Below w.heap.size w w' := by
  have hd : d = 0 ∨ d = 1 ∨ d = 2 ∨ d = 3 := by omega
  have ex : ∀ k : Int, -1 ≤ k → k ≤ 1 → IntKind.i64.wrap (x + k) = x + k := fun k _ _ => IntWalk.i64_in _ (by omega)
  have ey : ∀ k : Int, -1 ≤ k → k ≤ 1 → IntKind.i64.wrap (y + k) = y + k := fun k _ _ => IntWalk.i64_in _ (by omega)
  have a1 := ex 1 (by omega) (by omega)
  have a2 := ex 0 (by omega) (by omega)
  have a3 := ex (-1) (by omega) (by omega)
  have b1 := ey 1 (by omega) (by omega)
  have b2 := ey 0 (by omega) (by omega)
  have b3 := ey (-1) (by omega) (by omega)
  clear ex ey
  rcases hd with rfl | rfl | rfl | rfl
  all_goals
    go_enter Try.func35, Try.ntmps35
    go_wp2_with fail
    go_region
    all_goals go_wp2_with fail
    all_goals go_ret2
    all_goals exact ⟨by simp [dx, dy], below_drewN ((((Below.refl _ _).alloc (Nat.le_refl _) _).alloc (by simp) _).alloc (by simp; omega) _) _⟩
end Go.Proofs.Ytaemldfeicjdnaa.Lp
