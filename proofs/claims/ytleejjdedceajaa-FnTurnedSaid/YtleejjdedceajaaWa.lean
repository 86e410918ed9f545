/- Pairs added and multiplied: the model and the program. -/
import Derived.Test.YtleejjdedceajaaTrn
import Derived.WalkLawsBesides
namespace Go.Proofs.Ytleejjdedceajaa.Wa
open Go.ChangeShapes Go.WideShapes Go.ChangeAt Go.RowKit
open Go.Proofs.Ytleejjdedceajaa.Flt
attribute [local go_sem] Flt.run_store_float

def mre (a b c d : Nat) : Nat := opF .sub (opF .mul a c) (opF .mul b d)
def mim (a b c d : Nat) : Nat := opF .add (opF .mul a d) (opF .mul b c)
theorem hA (x y : Nat) (w : World) : (binOp .add 25 (.float .f64 x) (.float .f64 y)).run Try.prog w = .ok (.float .f64 (opB .add x y w)) (w.drewN (opD .add x y)) := run_op Try.prog .add arAdd 30 x y w
theorem hM (x y : Nat) (w : World) : (binOp .mul 25 (.float .f64 x) (.float .f64 y)).run Try.prog w = .ok (.float .f64 (opB .mul x y w)) (w.drewN (opD .mul x y)) := run_op Try.prog .mul arMul 30 x y w
theorem hS (x y : Nat) (w : World) : (binOp .sub 25 (.float .f64 x) (.float .f64 y)).run Try.prog w = .ok (.float .f64 (opB .sub x y w)) (w.drewN (opD .sub x y)) := run_op Try.prog .sub arSub 30 x y w

set_option maxHeartbeats 1000000 in
theorem imul (a b c d : Nat) (w : World) : Calls Try.prog 21 #[.complex .f64 a b, .complex .f64 c d] w fun e w' => ∃ x y, e = .returned (.complex .f64 x y) ∧ cn x = mre (cn a) (cn b) (cn c) (cn d) ∧ cn y = mim (cn a) (cn b) (cn c) (cn d) ∧ Below w.heap.size w w' := by
  have kA := hA
  have kM := hM
  have kS := hS
  go_enter Try.func21, Try.ntmps21
  go_wp2_with fail
  go_ret
  exact ⟨_, _, rfl, by rw [cn_op, cn_op, cn_op]; rfl, by rw [cn_op, cn_op, cn_op]; rfl, below_drewN (Below.refl _ _) _⟩

set_option maxHeartbeats 1000000 in
theorem icx (a b : Nat) (w : World) : Calls Try.prog 20 #[pr a b] w fun e w' => e = .returned (.complex .f64 a b) ∧ Below w.heap.size w w' := by
  go_enter Try.func20, Try.ntmps20
  go_wp2_with fail
  go_ret
  exact ⟨rfl, (Below.refl _ _).alloc (Nat.le_refl _) _⟩

end Go.Proofs.Ytleejjdedceajaa.Wa
