/- Pairs added and multiplied: the model and the program. -/
import Derived.Test.YtgnnmepjdmcecaaTrn
import Derived.WalkLawsBesides
namespace Go.Proofs.Ytgnnmepjdmcecaa.Wa
open Go.ChangeShapes Go.WideShapes Go.ChangeAt Go.RowKit
open Go.Proofs.Ytgnnmepjdmcecaa.Flt
attribute [local go_sem] Flt.run_store_float

def mre (a b c d : Nat) : Nat := opF .sub (opF .mul a c) (opF .mul b d)
def mim (a b c d : Nat) : Nat := opF .add (opF .mul a d) (opF .mul b c)
theorem hA (x y : Nat) (w : World) : (binOp .add 27 (.float .f64 x) (.float .f64 y)).run Try.prog w = .ok (.float .f64 (opB .add x y w)) (w.drewN (opD .add x y)) := run_op Try.prog .add arAdd 30 x y w
theorem hM (x y : Nat) (w : World) : (binOp .mul 27 (.float .f64 x) (.float .f64 y)).run Try.prog w = .ok (.float .f64 (opB .mul x y w)) (w.drewN (opD .mul x y)) := run_op Try.prog .mul arMul 30 x y w
theorem hS (x y : Nat) (w : World) : (binOp .sub 27 (.float .f64 x) (.float .f64 y)).run Try.prog w = .ok (.float .f64 (opB .sub x y w)) (w.drewN (opD .sub x y)) := run_op Try.prog .sub arSub 30 x y w

set_option maxHeartbeats 1000000 in
theorem iadd (a b c d : Nat) (w : World) : Calls Try.prog 26 #[.complex .f64 a b, .complex .f64 c d] w fun e w' => ∃ x y, e = .returned (.complex .f64 x y) ∧ cn x = opF .add (cn a) (cn c) ∧ cn y = opF .add (cn b) (cn d) ∧ Below w.heap.size w w' := by
  have kA := hA
  go_enter Try.func26, Try.ntmps26
  go_wp2_with fail
  go_ret
  exact ⟨_, _, rfl, cn_op _ _ _ _, cn_op _ _ _ _, below_drewN (Below.refl _ _) _⟩

set_option maxHeartbeats 1000000 in
theorem imul (a b c d : Nat) (w : World) : Calls Try.prog 27 #[.complex .f64 a b, .complex .f64 c d] w fun e w' => ∃ x y, e = .returned (.complex .f64 x y) ∧ cn x = mre (cn a) (cn b) (cn c) (cn d) ∧ cn y = mim (cn a) (cn b) (cn c) (cn d) ∧ Below w.heap.size w w' := by
  have kA := hA
  have kM := hM
  have kS := hS
  go_enter Try.func27, Try.ntmps27
  go_wp2_with fail
  go_ret
  exact ⟨_, _, rfl, by rw [cn_op, cn_op, cn_op]; rfl, by rw [cn_op, cn_op, cn_op]; rfl, below_drewN (Below.refl _ _) _⟩

set_option maxHeartbeats 1000000 in
theorem icx (a b : Nat) (w : World) : Calls Try.prog 18 #[pr a b] w fun e w' => e = .returned (.complex .f64 a b) ∧ Below w.heap.size w w' := by
  go_enter Try.func18, Try.ntmps18
  go_wp2_with fail
  go_ret
  exact ⟨rfl, (Below.refl _ _).alloc (Nat.le_refl _) _⟩

set_option maxHeartbeats 1000000 in
theorem sadd (a b c d : Nat) (w : World) : Calls Try.prog 23 #[pr a b, pr c d] w fun e w' => ∃ x y, e = .returned (pr x y) ∧ cn x = opF .add (cn a) (cn c) ∧ cn y = opF .add (cn b) (cn d) ∧ Below w.heap.size w w' := by
  have kA := hA
  go_enter Try.func23, Try.ntmps23
  go_wp2_with fail
  refine bodyPost_ret (v := pr _ _) (by simp [results, Try.results23, go_sem]; exact ⟨rfl, rfl⟩) rfl ⟨_, _, rfl, cn_op _ _ _ _, cn_op _ _ _ _, ?_⟩
  exact ((below_drewN ((((Below.refl _ _).alloc (Nat.le_refl _) _).alloc (by simp) _).alloc (by simp; omega) _) _).setCell (p := ⟨w.heap.size + 1 + 1, 0, none⟩) (by show w.heap.size ≤ w.heap.size + 1 + 1; omega) _).setCell (p := ⟨w.heap.size + 1 + 1, 1, none⟩) (by show w.heap.size ≤ w.heap.size + 1 + 1; omega) _

set_option maxHeartbeats 1000000 in
theorem smul (a b c d : Nat) (w : World) : Calls Try.prog 24 #[pr a b, pr c d] w fun e w' => ∃ x y, e = .returned (pr x y) ∧ cn x = mre (cn a) (cn b) (cn c) (cn d) ∧ cn y = mim (cn a) (cn b) (cn c) (cn d) ∧ Below w.heap.size w w' := by
  have kA := hA
  have kM := hM
  have kS := hS
  go_enter Try.func24, Try.ntmps24
  go_wp2_with fail
  refine bodyPost_ret (v := pr _ _) (by simp [results, Try.results24, go_sem]; exact ⟨rfl, rfl⟩) rfl ⟨_, _, rfl, by rw [cn_op, cn_op, cn_op]; rfl, by rw [cn_op, cn_op, cn_op]; rfl, ?_⟩
  exact ((below_drewN ((((Below.refl _ _).alloc (Nat.le_refl _) _).alloc (by simp) _).alloc (by simp; omega) _) _).setCell (p := ⟨w.heap.size + 1 + 1, 0, none⟩) (by show w.heap.size ≤ w.heap.size + 1 + 1; omega) _).setCell (p := ⟨w.heap.size + 1 + 1, 1, none⟩) (by show w.heap.size ≤ w.heap.size + 1 + 1; omega) _
end Go.Proofs.Ytgnnmepjdmcecaa.Wa
