/- ReadNumber at the three words. -/
import Derived.Test.YtilgifehilomgaaDoorRnJ
namespace Go.Proofs.YtilgifehilomgaaDoor.Dec
open Go.ChangeShapes Go.WideShapes Go.ChangeAt Go.RowKit Flt

def pinf : Nat := 9218868437227405312
def ninf : Nat := 18442240474082181120

theorem q00 : opF .quo (cn 0) (cn 0) = qn := by decide +kernel

set_option maxHeartbeats 1000000 in
theorem none7 (w : World) : Calls Tryd.prog 29 #[] w fun e w' => ∃ x : Nat, e = .returned (.float .f64 x) ∧ cn x = qn ∧ Below w.heap.size w w' := by
  have hqu : ∀ x y w, (binOp .quo 24 (.float .f64 x) (.float .f64 y)).run Tryd.prog w = .ok (.float .f64 (opB .quo x y w)) (w.drewN (opD .quo x y)) := fun x y w => run_op Tryd.prog .quo (.inr (.inr (.inr rfl))) 22 x y w
  go_enter Tryd.func29, Tryd.ntmps29
  go_wp2_with fail
  go_ret
  exact ⟨_, rfl, (cn_op _ _ _ _).trans q00, belowN (Below.refl _ _) _⟩

theorem fr0 (w : World) : (callFunc 38 #[.int .u64 9221120237041090561]).run Tryd.prog w = .ok (.value (.float .f64 9221120237041090561)) w := by kernel_rfl
theorem fr1 (w : World) : (callFunc 38 #[.int .u64 9218868437227405312]).run Tryd.prog w = .ok (.value (.float .f64 9218868437227405312)) w := by kernel_rfl
theorem fr2 (w : World) : (callFunc 38 #[.int .u64 18442240474082181120]).run Tryd.prog w = .ok (.value (.float .f64 18442240474082181120)) w := by kernel_rfl
set_option maxHeartbeats 1000000 in
theorem nan11 (w : World) : Calls Tryd.prog 24 #[] w fun e w' => e = .returned (.float .f64 qn) ∧ w' = w := by
  have hf := fr0
  go_enter Tryd.func24, Tryd.ntmps24
  go_wp2
  go_ret
  exact ⟨rfl, rfl⟩
set_option maxHeartbeats 1000000 in
theorem inf12 (w : World) : Calls Tryd.prog 25 #[.int .i64 1] w fun e w' => e = .returned (.float .f64 pinf) ∧ w' = w := by
  have hf := fr1
  go_enter Tryd.func25, Tryd.ntmps25
  go_wp2
  go_ret
  exact ⟨rfl, rfl⟩
set_option maxHeartbeats 1000000 in
theorem ninf12 (w : World) : Calls Tryd.prog 25 #[.int .i64 (-1)] w fun e w' => e = .returned (.float .f64 ninf) ∧ w' = w := by
  have hf := fr2
  go_enter Tryd.func25, Tryd.ntmps25
  go_wp2
  go_ret
  exact ⟨rfl, rfl⟩

set_option maxHeartbeats 1000000 in
theorem iread_none (s : ByteArray) (w : World) (h1 : (s.toList == [47]) = true) : Calls Tryd.prog 8 #[.string s] w (fb qn true w) := by
  go_enter Tryd.func8, Tryd.ntmps8
  go_wp2_with fail
  refine (nan11 _).mono ?_
  rintro e w1 ⟨rfl, hw⟩
  go_wp2_with fail
  go_ret2
  exact ⟨⟨qn, rfl, by decide +kernel⟩, Below.refl _ _⟩
set_option maxHeartbeats 1000000 in
theorem iread_high (s : ByteArray) (w : World) (h1 : (s.toList == [47]) = false) (h2 : (s.toList == [104, 105, 103, 104]) = true) : Calls Tryd.prog 8 #[.string s] w (fb pinf true w) := by
  go_enter Tryd.func8, Tryd.ntmps8
  go_wp2_with fail
  refine (inf12 _).mono ?_
  rintro e w1 ⟨rfl, hw⟩
  go_wp2_with fail
  go_ret2
  exact ⟨⟨pinf, rfl, by decide +kernel⟩, Below.refl _ _⟩
set_option maxHeartbeats 1000000 in
theorem iread_low (s : ByteArray) (w : World) (h1 : (s.toList == [47]) = false) (h2 : (s.toList == [104, 105, 103, 104]) = false) (h3 : (s.toList == [108, 111, 119]) = true) : Calls Tryd.prog 8 #[.string s] w (fb ninf true w) := by
  go_enter Tryd.func8, Tryd.ntmps8
  go_wp2_with fail
  refine (ninf12 _).mono ?_
  rintro e w1 ⟨rfl, hw⟩
  go_wp2_with fail
  go_ret2
  exact ⟨⟨ninf, rfl, by decide +kernel⟩, Below.refl _ _⟩
end Go.Proofs.YtilgifehilomgaaDoor.Dec
