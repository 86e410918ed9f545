/- Told, in the program and in its model. -/
import Derived.Test.YtdjihkmhgmkdjaaDoorPt
import Derived.Test.YtdjihkmhgmkdjaaDoorNearD
namespace Go.Proofs.YtdjihkmhgmkdjaaDoor.Flt
open Go.ChangeShapes Go.WideShapes Go.ChangeAt Go.RowKit
open Ieee in
theorem word_rng (s : Bool) (r : Nat) (h : r < 9223372036854775808) : rng (double.word s r) = r ∧ double.word s r < 18446744073709551616 := by
  have e : double.signWeight = 9223372036854775808 := rfl
  unfold Format.word rng
  rw [e]
  cases s
  · simp; omega
  · simp; omega
open Ieee in
theorem nearest_rng (s : Bool) (m : Nat) (p : Int) : rng (double.nearest s m p) ≤ 9218868437227405312 ∧ double.nearest s m p < 18446744073709551616 := by
  have e : double.infRung = 9218868437227405312 := rfl
  unfold Format.nearest
  dsimp only
  split
  · have := word_rng s 0 (by omega); rw [this.1]; exact ⟨by omega, this.2⟩
  · rw [e]
    generalize (_ : Nat) + _ = z
    have := word_rng s (min z 9218868437227405312) (by omega)
    rw [this.1]
    exact ⟨by omega, this.2⟩

def tenF (p : Nat) : Nat := match p with
  | 0 => 4607182418800017408
  | 1 => 4621819117588971520
  | 2 => 4636737291354636288
  | 3 => 4652007308841189376
  | 4 => 4666723172467343360
  | 5 => 4681608360884174848
  | _ => 4696837146684686336
theorem ten_int (p : Nat) (h : p ≤ 6) : floatOfInt .f64 ((10 : Int) ^ p) = tenF p := by
  rcases (by omega : p = 0 ∨ p = 1 ∨ p = 2 ∨ p = 3 ∨ p = 4 ∨ p = 5 ∨ p = 6) with rfl | rfl | rfl | rfl | rfl | rfl | rfl <;> decide +kernel
theorem ten_mul (k : Nat) (h : k < 6) : floatBits .mul .f64 (tenF k) 4621819117588971520 = some (tenF (k + 1)) := by
  rcases (by omega : k = 0 ∨ k = 1 ∨ k = 2 ∨ k = 3 ∨ k = 4 ∨ k = 5) with rfl | rfl | rfl | rfl | rfl | rfl <;> decide +kernel
theorem ten_fin (p : Nat) : rng (tenF p) < 9218868437227405312 := by
  match p with
  | 0 | 1 | 2 | 3 | 4 | 5 => decide +kernel
  | _ + 6 => show rng 4696837146684686336 < _; decide +kernel
theorem mul_fin (x y : Nat) (hx : rng x < 9218868437227405312) (hy : rng y < 9218868437227405312) : ∃ r, floatBits .mul .f64 x y = some r ∧ r < 18446744073709551616 := by
  obtain ⟨m, a, e, _⟩ := read_fin x hx
  obtain ⟨n, b, e', _⟩ := read_fin y hy
  show ∃ r, Ieee.double.mul x y = some r ∧ _
  unfold Ieee.Format.mul
  rw [e, e']
  exact ⟨_, rfl, (nearest_rng _ _ _).2⟩
theorem pow_le (k : Nat) (h : k ≤ 6) : (1 : Int) ≤ 10 ^ k ∧ (10 : Int) ^ k ≤ 1000000 := by
  rcases (by omega : k = 0 ∨ k = 1 ∨ k = 2 ∨ k = 3 ∨ k = 4 ∨ k = 5 ∨ k = 6) with rfl | rfl | rfl | rfl | rfl | rfl | rfl <;> decide

set_option maxHeartbeats 1000000 in
theorem lten_any (p : Nat) (w : World) (hp : p ≤ 6) : Calls Tryd.prog 8 #[.int .i64 p] w fun e w' => e = .returned (.int .i64 ((10 : Int) ^ p)) ∧ w' = w := by
  go_enter Tryd.func8, Tryd.ntmps8
  go_wp2
  go_loop [3, 4] (fun n i => ∃ k : Nat, k ≤ p ∧ i = .int .i64 k ∧ n = .int .i64 ((10 : Int) ^ k)) (fun _ i => p - (intOf i).toNat)
  case atStart => exact ⟨0, by omega, rfl, rfl⟩
  case round =>
    obtain ⟨k, hk, rfl, rfl⟩ := hrel
    obtain ⟨u0, u1⟩ := pow_le k (by omega)
    have ue : (10 : Int) ^ (k + 1) = 10 ^ k * 10 := Int.pow_succ ..
    by_cases hlt : k < p
    · have i1 : (k : Int) < (p : Int) := by omega
      have UE : Hid ((10 : Int) ^ (k + 1) = 10 ^ k * 10) := ue
      clear ue
      generalize (10 : Int) ^ k = z at *
      go_wp2
      go_round
      case rel => exact ⟨k + 1, by omega, by go_num, by rw [UE.out]⟩
      case measure => simp [intOf]; omega
    · have i1 : ¬ (k : Int) < (p : Int) := by omega
      obtain rfl : k = p := by omega
      clear ue
      go_wp2
      go_ret
      exact ⟨rfl, rfl⟩

set_option maxHeartbeats 1000000 in
theorem power_any (p : Nat) (w : World) (hp : p ≤ 6) : Calls Tryd.prog 14 #[.int .i64 p] w fun e w' => e = .returned (.float .f64 (tenF p)) ∧ w' = w := by
  go_enter Tryd.func14, Tryd.ntmps14
  go_wp2
  go_loop [3, 5] (fun n i => ∃ k : Nat, k ≤ p ∧ i = .int .i64 k ∧ n = .float .f64 (tenF k)) (fun _ i => p - (intOf i).toNat)
  case atStart => exact ⟨0, by omega, rfl, rfl⟩
  case round =>
    obtain ⟨k, hk, rfl, rfl⟩ := hrel
    by_cases hlt : k < p
    · have i1 : (k : Int) < (p : Int) := by omega
      have hm : ∀ w, (binOp .mul 22 (.float .f64 (tenF k)) (.float .f64 4621819117588971520)).run Tryd.prog w = .ok (.float .f64 (tenF (k + 1))) w := fun w => run_float_arith w .mul 22 .f64 _ _ _ (ten_mul k (by omega))
      generalize tenF k = a at *
      obtain ⟨b, hb⟩ : ∃ b, b = tenF (k + 1) := ⟨_, rfl⟩
      rw [← hb] at hm
      have HB : Hid (b = tenF (k + 1)) := hb
      clear hb
      go_wp2
      go_round
      case rel => exact ⟨k + 1, by omega, by go_num, by rw [HB.out]⟩
      case measure => simp [intOf]; omega
    · have i1 : ¬ (k : Int) < (p : Int) := by omega
      obtain rfl : k = p := by omega
      go_wp2
      go_ret
      exact ⟨rfl, rfl⟩

set_option maxHeartbeats 400000 in
theorem isnan_any (x : Nat) (w : World) : Calls Tryd.prog 11 #[.float .f64 x] w fun e w' => e = .returned (.bool (nan x)) ∧ w' = w := by
  have n1 := self_ne x
  go_enter Tryd.func11, Tryd.ntmps11
  go_wp2
  go_ret
  exact ⟨rfl, rfl⟩

theorem neg_rng (x : Nat) : rng (Op.negFloat .f64 x) = rng x := by
  show (x ^^^ 2 ^ 63) % 2 ^ 63 = x % 2 ^ 63
  rw [Nat.xor_mod_two_pow, Nat.mod_self, Nat.xor_zero]
theorem not_gt (x : Nat) (h : rng x < 9218868437227405312) : (ord x 9218868437227405311 == some .gt) = false := by
  have e : ord x 9218868437227405311 = some (compare (key x) 9218868437227405311) := order_key x 9218868437227405311 (by omega) (by decide +kernel)
  rw [e]
  have hk : key x ≤ 9218868437227405311 := by
    unfold key sg
    split <;> omega
  by_cases c : key x = 9218868437227405311
  · rw [c_eq c]; rfl
  · rw [c_lt (by omega)]; rfl

set_option maxHeartbeats 400000 in
theorem isinf_hi (x : Nat) (b : Bool) (w : World) (h : (ord x 9218868437227405311 == some .gt) = b) : Calls Tryd.prog 12 #[.float .f64 x, .int .i64 1] w fun e w' => e = .returned (.bool b) ∧ w' = w := by
  go_enter Tryd.func12, Tryd.ntmps12
  go_wp2
  go_ret
  exact ⟨rfl, rfl⟩
set_option maxHeartbeats 400000 in
theorem isinf_lo (x : Nat) (b : Bool) (w : World) (h : (ord (Op.negFloat .f64 x) 9218868437227405311 == some .gt) = b) : Calls Tryd.prog 12 #[.float .f64 x, .int .i64 (-1)] w fun e w' => e = .returned (.bool b) ∧ w' = w := by
  have hneg : ∀ w, (Op.unary .neg (.float .f64 x)).run Tryd.prog w = .ok (.float .f64 (Op.negFloat .f64 x)) w := fun w => rfl
  generalize Op.negFloat .f64 x = y at *
  go_enter Tryd.func12, Tryd.ntmps12
  go_wp2
  go_ret
  exact ⟨rfl, rfl⟩

set_option maxHeartbeats 400000 in
theorem within_any (n l h : Int) (w : World) : Calls Tryd.prog 10 #[.int .i64 n, .int .i64 l, .int .i64 h] w fun e w' => e = .returned (.bool (decide (l ≤ n) && decide (n ≤ h))) ∧ w' = w := by
  cases h1 : decide (l ≤ n)
  · have i1 : ¬ l ≤ n := by simpa using h1
    go_enter Tryd.func10, Tryd.ntmps10
    go_wp2
    go_ret
    exact ⟨rfl, rfl⟩
  · have i1 : l ≤ n := by simpa using h1
    go_enter Tryd.func10, Tryd.ntmps10
    go_wp2
    go_ret
    exact ⟨rfl, rfl⟩
end Go.Proofs.YtdjihkmhgmkdjaaDoor.Flt
