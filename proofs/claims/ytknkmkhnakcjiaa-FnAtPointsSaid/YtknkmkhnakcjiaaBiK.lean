/- Contracts for Known, in the program and in its model. -/
import Derived.Test.YtknkmkhnakcjiaaNanC
namespace Go.Proofs.Ytknkmkhnakcjiaa.Flt
open Go.ChangeShapes Go.WideShapes Go.ChangeAt Go.RowKit

theorem run_bits (x : Nat) (w : World) : (callFunc 27 #[.float .f64 x]).run Try.prog w = .ok (.value (.int .u64 x)) w := by kernel_rfl
set_option maxHeartbeats 400000 in
theorem iknown (x : Nat) (w : World) (h : x < 18446744073709551616) :
    Calls Try.prog 17 #[.float .f64 x] w fun e w' => e = .returned (.bool (kn x)) ∧ w' = w := by
  have hb := run_bits x
  have hk := kn_bits x h
  go_enter Try.func17, Try.ntmps17
  go_wp2
  go_ret
  exact ⟨rfl, rfl⟩
end Go.Proofs.Ytknkmkhnakcjiaa.Flt
