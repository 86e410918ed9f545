/- Told, in the program and in its model. -/
import Derived.Test.YtilgifehilomgaaDoorTen
import Derived.Test.YtilgifehilomgaaDoorNearD
namespace Go.Proofs.YtilgifehilomgaaDoor.Flt
open Go.ChangeShapes Go.WideShapes Go.ChangeAt Go.RowKit


theorem mul_fin (x y : Nat) (hx : rng x < 9218868437227405312) (hy : rng y < 9218868437227405312) : ∃ r, floatBits .mul .f64 x y = some r ∧ r < 18446744073709551616 := by
  obtain ⟨m, a, e, _⟩ := read_fin x hx
  obtain ⟨n, b, e', _⟩ := read_fin y hy
  show ∃ r, Ieee.double.mul x y = some r ∧ _
  unfold Ieee.Format.mul
  rw [e, e']
  exact ⟨_, rfl, (nearest_rng _ _ _).2⟩
set_option maxHeartbeats 400000 in
theorem isnan_any (x : Nat) (w : World) : Calls Tryd.prog 19 #[.float .f64 x] w fun e w' => e = .returned (.bool (nan x)) ∧ w' = w := by
  have n1 := self_ne x
  go_enter Tryd.func19, Tryd.ntmps19
  go_wp2
  go_ret
  exact ⟨rfl, rfl⟩

theorem neg_rng (x : Nat) : rng (Op.negFloat .f64 x) = rng x := by
  show (x ^^^ 2 ^ 63) % 2 ^ 63 = x % 2 ^ 63
  rw [Nat.xor_mod_two_pow, Nat.mod_self, Nat.xor_zero]
theorem not_gt (x : Nat) (h : rng x < 9218868437227405312) : (ord x 9218868437227405311 == some .gt) = false := by
  have e : ord x 9218868437227405311 = some (compare (key x) 9218868437227405311) := order_key x 9218868437227405311 (by omega) (by decide +kernel)
  rw [e]
  have hk : key x ≤ 9218868437227405311 := by
    unfold key sg
    split <;> omega
  by_cases c : key x = 9218868437227405311
  · rw [c_eq c]; rfl
  · rw [c_lt (by omega)]; rfl

set_option maxHeartbeats 400000 in
theorem isinf_hi (x : Nat) (b : Bool) (w : World) (h : (ord x 9218868437227405311 == some .gt) = b) : Calls Tryd.prog 20 #[.float .f64 x, .int .i64 1] w fun e w' => e = .returned (.bool b) ∧ w' = w := by
  go_enter Tryd.func20, Tryd.ntmps20
  go_wp2
  go_ret
  exact ⟨rfl, rfl⟩
set_option maxHeartbeats 400000 in
theorem isinf_lo (x : Nat) (b : Bool) (w : World) (h : (ord (Op.negFloat .f64 x) 9218868437227405311 == some .gt) = b) : Calls Tryd.prog 20 #[.float .f64 x, .int .i64 (-1)] w fun e w' => e = .returned (.bool b) ∧ w' = w := by
  have hneg : ∀ w, (Op.unary .neg (.float .f64 x)).run Tryd.prog w = .ok (.float .f64 (Op.negFloat .f64 x)) w := fun w => rfl
  generalize Op.negFloat .f64 x = y at *
  go_enter Tryd.func20, Tryd.ntmps20
  go_wp2
  go_ret
  exact ⟨rfl, rfl⟩

set_option maxHeartbeats 400000 in
theorem within_any (n l h : Int) (w : World) : Calls Tryd.prog 18 #[.int .i64 n, .int .i64 l, .int .i64 h] w fun e w' => e = .returned (.bool (decide (l ≤ n) && decide (n ≤ h))) ∧ w' = w := by
  cases h1 : decide (l ≤ n)
  · have i1 : ¬ l ≤ n := by simpa using h1
    go_enter Tryd.func18, Tryd.ntmps18
    go_wp2
    go_ret
    exact ⟨rfl, rfl⟩
  · have i1 : l ≤ n := by simpa using h1
    go_enter Tryd.func18, Tryd.ntmps18
    go_wp2
    go_ret
    exact ⟨rfl, rfl⟩
end Go.Proofs.YtilgifehilomgaaDoor.Flt
