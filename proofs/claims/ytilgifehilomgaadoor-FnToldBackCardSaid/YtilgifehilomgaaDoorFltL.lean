/- What is read of a told number, told again: the same number. -/
import Derived.Test.YtilgifehilomgaaDoorFltK
import Derived.Test.YtilgifehilomgaaDoorCn
namespace Go.Proofs.YtilgifehilomgaaDoor.Flt
open Ieee

theorem nan_fin (x : Nat) (h : rng x < 9218868437227405312) : nan x = false := decide_eq_false (by omega)

/-- The value that ReadNumber gives of the text of z at p places, and what Told makes of it. -/
theorem back_op (z : Int) (p : Nat) (hz : z.natAbs ≤ 1000000000000000) (hp : p ≤ 6) : ∃ q m, opF .quo (cn (floatOfInt .f64 z)) (cn (tenF p)) = q ∧ nan q = false ∧ rng q < 9218868437227405312 ∧ floatBits .mul .f64 q (tenF p) = some m ∧ rng m ≤ 4831355200913801216 ∧ near m = z := by
  obtain ⟨q, m, h1, h2, h3, h4, h5⟩ := back z p hz hp
  obtain ⟨f1, _, _⟩ := fl_num z (by omega)
  obtain ⟨_, _, t3⟩ := ten_val p hp
  refine ⟨q, m, ?_, nan_fin q h3, h3, h2, h4, h5⟩
  rw [cn_num (nan_fin _ f1), cn_num (nan_fin _ t3)]
  show (double.div (floatOfInt .f64 z) (tenF p)).getD qn = q
  rw [h1]
  rfl
end Go.Proofs.YtilgifehilomgaaDoor.Flt
