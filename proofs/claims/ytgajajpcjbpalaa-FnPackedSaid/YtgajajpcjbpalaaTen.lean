/- Powers of ten. -/
import Derived.Test.YtgajajpcjbpalaaNanC
import Derived.Test.YtgajajpcjbpalaaFltY
namespace Go.Proofs.Ytgajajpcjbpalaa.Flt
open Go.ChangeShapes Go.WideShapes Go.ChangeAt Go.RowKit

def tenF (p : Nat) : Nat := match p with
  | 0 => 4607182418800017408
  | 1 => 4621819117588971520
  | 2 => 4636737291354636288
  | 3 => 4652007308841189376
  | 4 => 4666723172467343360
  | 5 => 4681608360884174848
  | _ => 4696837146684686336
theorem ten_int (p : Nat) (h : p ≤ 6) : floatOfInt .f64 ((10 : Int) ^ p) = tenF p := by
  rcases (by omega : p = 0 ∨ p = 1 ∨ p = 2 ∨ p = 3 ∨ p = 4 ∨ p = 5 ∨ p = 6) with rfl | rfl | rfl | rfl | rfl | rfl | rfl <;> decide +kernel
theorem ten_mul (k : Nat) (h : k < 6) : floatBits .mul .f64 (tenF k) 4621819117588971520 = some (tenF (k + 1)) := by
  rcases (by omega : k = 0 ∨ k = 1 ∨ k = 2 ∨ k = 3 ∨ k = 4 ∨ k = 5) with rfl | rfl | rfl | rfl | rfl | rfl <;> decide +kernel
theorem ten_fin (p : Nat) : rng (tenF p) < 9218868437227405312 := by
  match p with
  | 0 | 1 | 2 | 3 | 4 | 5 => decide +kernel
  | _ + 6 => show rng 4696837146684686336 < _; decide +kernel
theorem pow_le (k : Nat) (h : k ≤ 6) : (1 : Int) ≤ 10 ^ k ∧ (10 : Int) ^ k ≤ 1000000 := by
  rcases (by omega : k = 0 ∨ k = 1 ∨ k = 2 ∨ k = 3 ∨ k = 4 ∨ k = 5 ∨ k = 6) with rfl | rfl | rfl | rfl | rfl | rfl | rfl <;> decide

set_option maxHeartbeats 1000000 in
theorem lten_any (p : Nat) (w : World) (hp : p ≤ 6) : Calls Try.prog 56 #[.int .i64 p] w fun e w' => e = .returned (.int .i64 ((10 : Int) ^ p)) ∧ w' = w := by
  go_enter Try.func56, Try.ntmps56
  go_wp2
  go_loop [3, 4] (fun n i => ∃ k : Nat, k ≤ p ∧ i = .int .i64 k ∧ n = .int .i64 ((10 : Int) ^ k)) (fun _ i => p - (intOf i).toNat)
  case atStart => exact ⟨0, by omega, rfl, rfl⟩
  case round =>
    obtain ⟨k, hk, rfl, rfl⟩ := hrel
    obtain ⟨u0, u1⟩ := pow_le k (by omega)
    have ue : (10 : Int) ^ (k + 1) = 10 ^ k * 10 := Int.pow_succ ..
    by_cases hlt : k < p
    · have i1 : (k : Int) < (p : Int) := by omega
      have UE : Hid ((10 : Int) ^ (k + 1) = 10 ^ k * 10) := ue
      clear ue
      generalize (10 : Int) ^ k = z at *
      go_wp2
      go_round
      case rel => exact ⟨k + 1, by omega, by go_num, by rw [UE.out]⟩
      case measure => simp [intOf]; omega
    · have i1 : ¬ (k : Int) < (p : Int) := by omega
      obtain rfl : k = p := by omega
      clear ue
      go_wp2
      go_ret
      exact ⟨rfl, rfl⟩

set_option maxHeartbeats 1000000 in
theorem power_any (p : Nat) (w : World) (hp : p ≤ 6) : Calls Try.prog 55 #[.int .i64 p] w fun e w' => e = .returned (.float .f64 (tenF p)) ∧ w' = w := by
  go_enter Try.func55, Try.ntmps55
  go_wp2
  go_loop [3, 5] (fun n i => ∃ k : Nat, k ≤ p ∧ i = .int .i64 k ∧ n = .float .f64 (tenF k)) (fun _ i => p - (intOf i).toNat)
  case atStart => exact ⟨0, by omega, rfl, rfl⟩
  case round =>
    obtain ⟨k, hk, rfl, rfl⟩ := hrel
    by_cases hlt : k < p
    · have i1 : (k : Int) < (p : Int) := by omega
      have hm : ∀ w, (binOp .mul 40 (.float .f64 (tenF k)) (.float .f64 4621819117588971520)).run Try.prog w = .ok (.float .f64 (tenF (k + 1))) w := fun w => run_float_arith w .mul 40 .f64 _ _ _ (ten_mul k (by omega))
      generalize tenF k = a at *
      obtain ⟨b, hb⟩ : ∃ b, b = tenF (k + 1) := ⟨_, rfl⟩
      rw [← hb] at hm
      have HB : Hid (b = tenF (k + 1)) := hb
      clear hb
      go_wp2
      go_round
      case rel => exact ⟨k + 1, by omega, by go_num, by rw [HB.out]⟩
      case measure => simp [intOf]; omega
    · have i1 : ¬ (k : Int) < (p : Int) := by omega
      obtain rfl : k = p := by omega
      go_wp2
      go_ret
      exact ⟨rfl, rfl⟩

end Go.Proofs.Ytgajajpcjbpalaa.Flt
