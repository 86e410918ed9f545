/- Soils: rain, what seeps, whether one is right: the program and the model. -/
import Derived.Test.YtncjfglljkiblaaDoorSo
namespace Go.Proofs.YtncjfglljkiblaaDoor.So
open Go.ChangeShapes Go.WideShapes Go.ChangeAt Go.RowKit

def inn (a lo hi : Int) : Bool := decide (lo ≤ a) && decide (a ≤ hi)
theorem inn_iff (a lo hi : Int) : inn a lo hi = true ↔ lo ≤ a ∧ a ≤ hi := by simp [inn]
def dn (b c : Int) : Int := min (max 0 (b - 100) / 4) (1500 - c)
def ov (b : Int) : Int := max 0 (b - 400)


set_option maxHeartbeats 1000000 in
theorem s_in (n l h : Int) (w : World) : Calls Tryd.prog 15 #[.int .i64 n, .int .i64 l, .int .i64 h] w fun e w' => e = .returned (.bool (inn n l h)) ∧ w' = w := by
  unfold inn
  by_cases h1 : l ≤ n
  · have e1 : decide (l ≤ n) = true := by simpa using h1
    rw [e1]
    go_enter Tryd.func15, Tryd.ntmps15
    go_wp2_with fail
    go_ret
    exact ⟨rfl, rfl⟩
  · have e1 : decide (l ≤ n) = false := by simpa using h1
    rw [e1]
    go_enter Tryd.func15, Tryd.ntmps15
    go_wp2_with fail
    go_ret
    exact ⟨rfl, rfl⟩


set_option maxHeartbeats 1000000 in
theorem i_in (n l h : Int) (w : World) : Calls Tryd.prog 31 #[.int .i64 n, .int .i64 l, .int .i64 h] w fun e w' => e = .returned (.bool (inn n l h)) ∧ w' = w := by
  unfold inn
  by_cases h1 : l ≤ n
  · have e1 : decide (l ≤ n) = true := by simpa using h1
    rw [e1]
    go_enter Tryd.func31, Tryd.ntmps31
    go_wp2_with fail
    go_ret
    exact ⟨rfl, rfl⟩
  · have e1 : decide (l ≤ n) = false := by simpa using h1
    rw [e1]
    go_enter Tryd.func31, Tryd.ntmps31
    go_wp2_with fail
    go_ret
    exact ⟨rfl, rfl⟩


end Go.Proofs.YtncjfglljkiblaaDoor.So