/- ReadNumber at the three words. -/
import Derived.Test.YtpgdhmmhnjgeeaaDoorRnJ
namespace Go.Proofs.YtpgdhmmhnjgeeaaDoor.Dec
open Go.ChangeShapes Go.WideShapes Go.ChangeAt Go.RowKit Flt

def pinf : Nat := 9218868437227405312
def ninf : Nat := 18442240474082181120

theorem q00 : opF .quo (cn 0) (cn 0) = qn := by decide +kernel

set_option maxHeartbeats 1000000 in
theorem none7 (w : World) : Calls Tryd.prog 7 #[] w fun e w' => ∃ x : Nat, e = .returned (.float .f64 x) ∧ cn x = qn ∧ Below w.heap.size w w' := by
  have hqu : ∀ x y w, (binOp .quo 22 (.float .f64 x) (.float .f64 y)).run Tryd.prog w = .ok (.float .f64 (opB .quo x y w)) (w.drewN (opD .quo x y)) := fun x y w => run_op Tryd.prog .quo (.inr (.inr (.inr rfl))) 22 x y w
  go_enter Tryd.func7, Tryd.ntmps7
  go_wp2_with fail
  go_ret
  exact ⟨_, rfl, (cn_op _ _ _ _).trans q00, belowN (Below.refl _ _) _⟩

set_option maxHeartbeats 1000000 in
theorem sread_none (s : ByteArray) (w : World) (h1 : (s.toList == [47]) = true) : Calls Tryd.prog 4 #[.string s] w (fb qn true w) := by
  have N : Hid (∀ w : World, Calls Tryd.prog 7 #[] w fun e w' => ∃ x : Nat, e = .returned (.float .f64 x) ∧ cn x = qn ∧ Below w.heap.size w w') := fun w => none7 w
  go_enter Tryd.func4, Tryd.ntmps4
  go_wp2_with fail
  refine (N.out _).mono ?_
  rintro e w1 ⟨x, rfl, hx, hb⟩
  go_wp2_with fail
  go_ret2
  exact ⟨⟨x, rfl, hx⟩, hb⟩

set_option maxHeartbeats 1000000 in
theorem sread_high (s : ByteArray) (w : World) (h1 : (s.toList == [47]) = false) (h2 : (s.toList == [104, 105, 103, 104]) = true) : Calls Tryd.prog 4 #[.string s] w (fb pinf true w) := by
  have hqu : ∀ x y w, (binOp .mul 22 (.float .f64 x) (.float .f64 y)).run Tryd.prog w = .ok (.float .f64 (opB .mul x y w)) (w.drewN (opD .mul x y)) := fun x y w => run_op Tryd.prog .mul (.inr (.inr (.inl rfl))) 22 x y w
  go_enter Tryd.func4, Tryd.ntmps4
  go_wp2_with fail
  go_ret2
  refine ⟨⟨_, rfl, (cn_op _ _ _ _).trans (by decide +kernel)⟩, belowN (Below.refl _ _) _⟩

set_option maxHeartbeats 1000000 in
theorem sread_low (s : ByteArray) (w : World) (h1 : (s.toList == [47]) = false) (h2 : (s.toList == [104, 105, 103, 104]) = false) (h3 : (s.toList == [108, 111, 119]) = true) : Calls Tryd.prog 4 #[.string s] w (fb ninf true w) := by
  have hqu : ∀ x y w, (binOp .mul 22 (.float .f64 x) (.float .f64 y)).run Tryd.prog w = .ok (.float .f64 (opB .mul x y w)) (w.drewN (opD .mul x y)) := fun x y w => run_op Tryd.prog .mul (.inr (.inr (.inl rfl))) 22 x y w
  have hng : ∀ w, (Op.unary .neg (.float .f64 9214871658872686752)).run Tryd.prog w = .ok (.float .f64 18438243695727462560) w := fun w => by kernel_rfl
  go_enter Tryd.func4, Tryd.ntmps4
  go_wp2_with fail
  go_ret2
  refine ⟨⟨_, rfl, (cn_op _ _ _ _).trans (by decide +kernel)⟩, belowN (Below.refl _ _) _⟩

theorem fr0 (w : World) : (callFunc 20 #[.int .u64 9221120237041090561]).run Tryd.prog w = .ok (.value (.float .f64 9221120237041090561)) w := by kernel_rfl
theorem fr1 (w : World) : (callFunc 20 #[.int .u64 9218868437227405312]).run Tryd.prog w = .ok (.value (.float .f64 9218868437227405312)) w := by kernel_rfl
theorem fr2 (w : World) : (callFunc 20 #[.int .u64 18442240474082181120]).run Tryd.prog w = .ok (.value (.float .f64 18442240474082181120)) w := by kernel_rfl
set_option maxHeartbeats 1000000 in
theorem nan11 (w : World) : Calls Tryd.prog 11 #[] w fun e w' => e = .returned (.float .f64 qn) ∧ w' = w := by
  have hf := fr0
  go_enter Tryd.func11, Tryd.ntmps11
  go_wp2
  go_ret
  exact ⟨rfl, rfl⟩
set_option maxHeartbeats 1000000 in
theorem inf12 (w : World) : Calls Tryd.prog 12 #[.int .i64 1] w fun e w' => e = .returned (.float .f64 pinf) ∧ w' = w := by
  have hf := fr1
  go_enter Tryd.func12, Tryd.ntmps12
  go_wp2
  go_ret
  exact ⟨rfl, rfl⟩
set_option maxHeartbeats 1000000 in
theorem ninf12 (w : World) : Calls Tryd.prog 12 #[.int .i64 (-1)] w fun e w' => e = .returned (.float .f64 ninf) ∧ w' = w := by
  have hf := fr2
  go_enter Tryd.func12, Tryd.ntmps12
  go_wp2
  go_ret
  exact ⟨rfl, rfl⟩

set_option maxHeartbeats 1000000 in
theorem iread_none (s : ByteArray) (w : World) (h1 : (s.toList == [47]) = true) : Calls Tryd.prog 5 #[.string s] w (fb qn true w) := by
  go_enter Tryd.func5, Tryd.ntmps5
  go_wp2_with fail
  refine (nan11 _).mono ?_
  rintro e w1 ⟨rfl, hw⟩
  go_wp2_with fail
  go_ret2
  exact ⟨⟨qn, rfl, by decide +kernel⟩, Below.refl _ _⟩
set_option maxHeartbeats 1000000 in
theorem iread_high (s : ByteArray) (w : World) (h1 : (s.toList == [47]) = false) (h2 : (s.toList == [104, 105, 103, 104]) = true) : Calls Tryd.prog 5 #[.string s] w (fb pinf true w) := by
  go_enter Tryd.func5, Tryd.ntmps5
  go_wp2_with fail
  refine (inf12 _).mono ?_
  rintro e w1 ⟨rfl, hw⟩
  go_wp2_with fail
  go_ret2
  exact ⟨⟨pinf, rfl, by decide +kernel⟩, Below.refl _ _⟩
set_option maxHeartbeats 1000000 in
theorem iread_low (s : ByteArray) (w : World) (h1 : (s.toList == [47]) = false) (h2 : (s.toList == [104, 105, 103, 104]) = false) (h3 : (s.toList == [108, 111, 119]) = true) : Calls Tryd.prog 5 #[.string s] w (fb ninf true w) := by
  go_enter Tryd.func5, Tryd.ntmps5
  go_wp2_with fail
  refine (ninf12 _).mono ?_
  rintro e w1 ⟨rfl, hw⟩
  go_wp2_with fail
  go_ret2
  exact ⟨⟨ninf, rfl, by decide +kernel⟩, Below.refl _ _⟩
end Go.Proofs.YtpgdhmmhnjgeeaaDoor.Dec
