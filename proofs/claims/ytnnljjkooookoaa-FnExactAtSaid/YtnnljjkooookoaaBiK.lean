/- Contracts for Known, in the program and in its model. -/
import Derived.Test.YtnnljjkooookoaaNanC
namespace Go.Proofs.Ytnnljjkooookoaa.Flt
open Go.ChangeShapes Go.WideShapes Go.ChangeAt Go.RowKit

set_option maxHeartbeats 400000 in
theorem known_yes (x : Nat) (w : World) (h : rng x < 9218868437227405312) :
    Calls Try.prog 14 #[.float .f64 x] w fun e w' => e = .returned (.bool true) ∧ w' = w := by
  have hsub : ∀ w, (binOp .sub 25 (.float .f64 x) (.float .f64 x)).run Try.prog w = .ok (.float .f64 0) w := fun w => run_float_arith w .sub 25 .f64 x x 0 (sub_self x h)
  have ho : (FloatKind.f64.format.order 0 0 == some .eq) = true := by rfl
  go_enter Try.func14, Try.ntmps14
  go_wp2
  go_ret
  exact ⟨rfl, rfl⟩

set_option maxHeartbeats 400000 in
theorem known_no (x : Nat) (w : World) (h : 9218868437227405312 ≤ rng x) :
    Calls Try.prog 14 #[.float .f64 x] w fun e w' => e = .returned (.bool false) ∧ w' = w.drew := by
  obtain ⟨b, hb, _, hrun⟩ := run_nan Try.prog .sub 25 x x (Or.inr (Or.inl rfl)) (sub_self_none x h) w
  have ho : (FloatKind.f64.format.order b 0 == some .eq) = false := by
    have : FloatKind.f64.format.order b 0 = none := order_nan b 0 (Or.inl hb)
    rw [this]; rfl
  go_enter Try.func14, Try.ntmps14
  go_wp2
  go_ret
  exact ⟨rfl, rfl⟩
theorem sknown (x : Nat) (w : World) : Calls Try.prog 14 #[.float .f64 x] w fun e w' => e = .returned (.bool (kn x)) ∧ ∃ m, w' = w.drewN m := by
  by_cases h : rng x < 9218868437227405312
  · have e : kn x = true := decide_eq_true h
    rw [e]
    exact (known_yes x w h).mono fun _ _ h => ⟨h.1, 0, h.2⟩
  · have e : kn x = false := decide_eq_false h
    rw [e]
    exact (known_no x w (by omega)).mono fun _ _ h => ⟨h.1, 1, h.2⟩

theorem run_bits (x : Nat) (w : World) : (callFunc 25 #[.float .f64 x]).run Try.prog w = .ok (.value (.int .u64 x)) w := by kernel_rfl
set_option maxHeartbeats 400000 in
theorem iknown (x : Nat) (w : World) (h : x < 18446744073709551616) :
    Calls Try.prog 19 #[.float .f64 x] w fun e w' => e = .returned (.bool (kn x)) ∧ w' = w := by
  have hb := run_bits x
  have hk := kn_bits x h
  go_enter Try.func19, Try.ntmps19
  go_wp2
  go_ret
  exact ⟨rfl, rfl⟩
end Go.Proofs.Ytnnljjkooookoaa.Flt
