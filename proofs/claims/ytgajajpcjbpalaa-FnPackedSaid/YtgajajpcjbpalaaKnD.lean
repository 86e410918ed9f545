/- Which numbers are known: the model and the program. -/
import Derived.Test.YtgajajpcjbpalaaKnownC
import Derived.Test.YtgajajpcjbpalaaCn
namespace Go.Proofs.Ytgajajpcjbpalaa.Flt
open Go.ChangeShapes Go.WideShapes Go.ChangeAt Go.RowKit

set_option maxHeartbeats 400000 in
theorem known_yes (x : Nat) (w : World) (h : rng x < 9218868437227405312) :
    Calls Try.prog 66 #[.float .f64 x] w fun e w' => e = .returned (.bool true) ∧ w' = w := by
  have hsub : ∀ w, (binOp .sub 40 (.float .f64 x) (.float .f64 x)).run Try.prog w = .ok (.float .f64 0) w := fun w => run_float_arith w .sub 40 .f64 x x 0 (sub_self x h)
  have ho : (FloatKind.f64.format.order 0 0 == some .eq) = true := by rfl
  go_enter Try.func66, Try.ntmps66
  go_wp2
  go_ret
  exact ⟨rfl, rfl⟩

set_option maxHeartbeats 400000 in
theorem known_no (x : Nat) (w : World) (h : 9218868437227405312 ≤ rng x) :
    Calls Try.prog 66 #[.float .f64 x] w fun e w' => e = .returned (.bool false) ∧ w' = w.drew := by
  obtain ⟨b, hb, _, hrun⟩ := run_nan Try.prog .sub 40 x x (Or.inr (Or.inl rfl)) (sub_self_none x h) w
  have ho : (FloatKind.f64.format.order b 0 == some .eq) = false := by
    have : FloatKind.f64.format.order b 0 = none := order_nan b 0 (Or.inl hb)
    rw [this]; rfl
  go_enter Try.func66, Try.ntmps66
  go_wp2
  go_ret
  exact ⟨rfl, rfl⟩

theorem run_bits (x : Nat) (w : World) : (callFunc 67 #[.float .f64 x]).run Try.prog w = .ok (.value (.int .u64 x)) w := by kernel_rfl

set_option maxHeartbeats 400000 in
theorem iknown (x : Nat) (w : World) (h : x < 18446744073709551616) :
    Calls Try.prog 58 #[.float .f64 x] w fun e w' => e = .returned (.bool (kn x)) ∧ w' = w := by
  have hb := run_bits x
  have hk := kn_bits x h
  go_enter Try.func58, Try.ntmps58
  go_wp2
  go_ret
  exact ⟨rfl, rfl⟩

end Go.Proofs.Ytgajajpcjbpalaa.Flt
