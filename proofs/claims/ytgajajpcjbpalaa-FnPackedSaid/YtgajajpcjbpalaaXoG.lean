/- What a code stands for, as a float64: both ways are the same. -/
import Derived.Test.YtgajajpcjbpalaaXoF
import Derived.Test.YtgajajpcjbpalaaTen
namespace Go.Proofs.Ytgajajpcjbpalaa.Fls
open Go.ChangeShapes Go.WideShapes Go.ChangeAt Go.RowKit
open Go.Proofs.Ytgajajpcjbpalaa.Flt Go.Proofs.Ytgajajpcjbpalaa.Lists
open Ieee

theorem fi_form (n : Int) (h : n.natAbs < 9007199254740992) : ∃ s r, fi n = double.word s r ∧ sgn (fi n) = s ∧ rng (fi n) = r ∧ val r = n.natAbs * U ∧ r < 9218868437227405312 := by
  obtain ⟨r, h1, h2, h3⟩ := whole (decide (n < 0)) n.natAbs h
  have e : fi n = double.word (decide (n < 0)) r := by rw [← h1]; rfl
  obtain ⟨s1, s2, _⟩ := sgn_word (decide (n < 0)) r (by omega)
  exact ⟨decide (n < 0), r, e, by rw [e]; exact s1, by rw [e]; exact s2, h2, h3⟩
theorem below_one : val 4607182418800017407 < U := by decide +kernel
theorem read_full (x : Nat) (h1 : 4503599627370496 ≤ rng x) (h2 : rng x < 9218868437227405312) : ∃ M k, double.read x = .number (sgn x) M (-1074 + ((k : Nat) : Int)) ∧ 4503599627370496 ≤ M ∧ M < 9007199254740992 ∧ k = rng x / 4503599627370496 - 1 ∧ val (rng x) = M * 2 ^ k := by
  refine ⟨4503599627370496 + rng x % 4503599627370496, rng x / 4503599627370496 - 1, ?_, by omega, by omega, rfl, ?_⟩
  · rw [read_eq, if_neg (by omega), if_pos h2]
  · unfold val; rw [if_neg (by omega)]
theorem log52 (M : Nat) (h1 : 4503599627370496 ≤ M) (h2 : M < 9007199254740992) : M.log2 = 52 := by
  have hm : M ≠ 0 := by omega
  refine pow_between (Nat.log2_self_le hm) Nat.lt_log2_self ?_ ?_
  · exact h1
  · exact h2
theorem read_one : double.read 4607182418800017408 = .number false 4503599627370496 (-52) := by decide +kernel
theorem fi_big (n : Int) (h : n.natAbs < 9007199254740992) (h0 : n ≠ 0) : 4607182418800017408 ≤ rng (fi n) ∧ rng (fi n) < 9218868437227405312 := by
  obtain ⟨s, r, e1, e2, e3, e4, e5⟩ := fi_form n h
  rw [e3]
  refine ⟨?_, e5⟩
  by_cases c : r ≤ 4607182418800017407
  · have h1 := val_mono c
    have h2 := below_one
    have h3 : 1 * U ≤ n.natAbs * U := Nat.mul_le_mul_right _ (by omega)
    omega
  · omega
theorem mul_one (n : Int) (h : n.natAbs < 9007199254740992) : floatBits .mul .f64 (fi n) 4607182418800017408 = some (fi n) := by
  by_cases h0 : n = 0
  · subst h0; decide +kernel
  obtain ⟨g1, g2⟩ := fi_big n h h0
  obtain ⟨s, r, e1, e2, e3, e4, e5⟩ := fi_form n h
  obtain ⟨M, k, r1, m1, m2, hk, hv⟩ := read_full (fi n) (by omega) g2
  show ((double.read (fi n)).product (double.read 4607182418800017408)).map double.write = _
  rw [r1, read_one]
  show some (double.nearest (sgn (fi n) ^^ false) (M * 4503599627370496) ((-1074 + (k : Int)) + (-52))) = _
  obtain ⟨a, ha⟩ : ∃ a, k = a + 52 := ⟨k - 52, by omega⟩
  have ep : (-1074 + (k : Int)) + (-52) = -1074 + (a : Int) := by omega
  rw [ep, near_exact _ _ a r (by
    rw [← e3, hv, ha, Nat.pow_add, Nat.mul_assoc]
    have : (4503599627370496 : Nat) = 2 ^ 52 := by decide
    rw [this, Nat.mul_comm (2 ^ 52)]) e5, e2, Bool.xor_false, ← e1]
theorem div_one (n : Int) (h : n.natAbs < 9007199254740992) : floatBits .quo .f64 (fi n) 4607182418800017408 = some (fi n) := by
  by_cases h0 : n = 0
  · subst h0; decide +kernel
  obtain ⟨g1, g2⟩ := fi_big n h h0
  obtain ⟨s, r, e1, e2, e3, e4, e5⟩ := fi_form n h
  obtain ⟨M, k, r1, m1, m2, hk, hv⟩ := read_full (fi n) (by omega) g2
  show ((double.read (fi n)).quotient (52 + 2) (double.read 4607182418800017408)).map double.write = _
  rw [r1, read_one]
  have lm := log52 M m1 m2
  have ln : Nat.log2 4503599627370496 = 52 := log52 _ (by omega) (by omega)
  simp only [Datum.quotient]
  rw [if_neg (by omega), lm, ln]
  show some (double.nearest (sgn (fi n) ^^ false) (2 * ((M <<< 54) / 4503599627370496) + ((M <<< 54) % 4503599627370496 != 0).toNat) ((-1074 + (k : Int)) - (-52) - ((54 : Nat) : Int) - 1)) = _
  have hD : M <<< 54 = M * 4 * 4503599627370496 := by rw [Nat.shiftLeft_eq, Nat.mul_assoc]
  have hdiv : (M <<< 54) / 4503599627370496 = M * 4 := by rw [hD]; exact Nat.mul_div_cancel _ (by omega)
  have hmod : (M <<< 54) % 4503599627370496 = 0 := by rw [hD]; exact Nat.mul_mod_left _ _
  obtain ⟨a, ha⟩ : ∃ a, k = a + 3 := ⟨k - 3, by omega⟩
  have ep : (-1074 + (k : Int)) - (-52) - ((54 : Nat) : Int) - 1 = -1074 + (a : Int) := by omega
  rw [hdiv, hmod, ep]
  show some (double.nearest (sgn (fi n) ^^ false) (2 * (M * 4)) (-1074 + (a : Int))) = _
  rw [near_exact _ _ a r (by rw [← e3, hv, ha, Nat.pow_add, show (2 : Nat) ^ 3 = 8 from rfl, show 2 * (M * 4) = M * 8 by omega, Nat.mul_assoc, Nat.mul_comm 8]) e5, e2, Bool.xor_false, ← e1]

theorem ten_read (p : Nat) (h : p ≤ 6) : ∃ m e, double.read (tenF p) = .number false m e ∧ m ≠ 0 := by
  rcases (by omega : p = 0 ∨ p = 1 ∨ p = 2 ∨ p = 3 ∨ p = 4 ∨ p = 5 ∨ p = 6) with rfl | rfl | rfl | rfl | rfl | rfl | rfl
  · exact ⟨4503599627370496, -52, by decide +kernel, by decide⟩
  · exact ⟨5629499534213120, -49, by decide +kernel, by decide⟩
  · exact ⟨7036874417766400, -46, by decide +kernel, by decide⟩
  · exact ⟨8796093022208000, -43, by decide +kernel, by decide⟩
  · exact ⟨5497558138880000, -39, by decide +kernel, by decide⟩
  · exact ⟨6871947673600000, -36, by decide +kernel, by decide⟩
  · exact ⟨8589934592000000, -33, by decide +kernel, by decide⟩
theorem mul_some (n : Int) (h : n.natAbs < 9007199254740992) (p : Nat) (hp : p ≤ 6) : floatBits .mul .f64 (fi n) (tenF p) = some (opF .mul (fi n) (tenF p)) := by
  obtain ⟨m, a, e1, _⟩ := read_fin (fi n) (fl_num n h).1
  obtain ⟨m2, e, e2, _⟩ := ten_read p hp
  have : ∃ r, floatBits .mul .f64 (fi n) (tenF p) = some r := by
    show ∃ r, ((double.read (fi n)).product (double.read (tenF p))).map double.write = some r
    rw [e1, e2]
    exact ⟨_, rfl⟩
  obtain ⟨r, hr⟩ := this
  unfold opF
  rw [hr]
  rfl
theorem quo_some (n : Int) (h : n.natAbs < 9007199254740992) (p : Nat) (hp : p ≤ 6) : floatBits .quo .f64 (fi n) (tenF p) = some (opF .quo (fi n) (tenF p)) := by
  obtain ⟨m, a, e1, _⟩ := read_fin (fi n) (fl_num n h).1
  obtain ⟨m2, e, e2, hm⟩ := ten_read p hp
  have : ∃ r, floatBits .quo .f64 (fi n) (tenF p) = some r := by
    show ∃ r, ((double.read (fi n)).quotient (52 + 2) (double.read (tenF p))).map double.write = some r
    rw [e1, e2]
    simp only [Datum.quotient]
    rw [if_neg hm]
    exact ⟨_, rfl⟩
  obtain ⟨r, hr⟩ := this
  unfold opF
  rw [hr]
  rfl

def vl (dec n : Int) : Nat := if dec < 0 then opF .mul (fi n) (tenF (-dec).toNat) else opF .quo (fi n) (tenF dec.toNat)

set_option maxHeartbeats 400000 in
theorem scaled_mul (n : Int) (h : n.natAbs < 9007199254740992) (p : Nat) (hp : p ≤ 6) (w : World) : Calls Try.prog 40 #[.float .f64 (fi n), .int .i64 p] w fun e w' => e = .returned (.float .f64 (opF .mul (fi n) (tenF p))) ∧ w' = w := by
  have hm : ∀ w, (binOp .mul 40 (.float .f64 (fi n)) (.float .f64 (tenF p))).run Try.prog w = .ok (.float .f64 (opF .mul (fi n) (tenF p))) w := fun w => run_float_arith w .mul 40 .f64 _ _ _ (mul_some n h p hp)
  have HP : Hid (p ≤ 6) := hp
  have i0 : ¬ ((p : Int) < 0) := by omega
  generalize opF .mul (fi n) (tenF p) = y at *
  generalize fi n = x at *
  go_enter Try.func40, Try.ntmps40
  go_wp2_with (go_at_call 55; refine (power_any _ _ HP.out).mono ?_; rintro e w' ⟨rfl, hw⟩; subst hw)
  go_ret
  exact ⟨rfl, rfl⟩
set_option maxHeartbeats 400000 in
theorem scaled_quo (n : Int) (h : n.natAbs < 9007199254740992) (p : Nat) (hp : p ≤ 6) (h1 : 1 ≤ p) (w : World) : Calls Try.prog 40 #[.float .f64 (fi n), .int .i64 (-(p : Int))] w fun e w' => e = .returned (.float .f64 (opF .quo (fi n) (tenF p))) ∧ w' = w := by
  have hm : ∀ w, (binOp .quo 40 (.float .f64 (fi n)) (.float .f64 (tenF p))).run Try.prog w = .ok (.float .f64 (opF .quo (fi n) (tenF p))) w := fun w => run_float_arith w .quo 40 .f64 _ _ _ (quo_some n h p hp)
  have HP : Hid (p ≤ 6) := hp
  have i0 : (-(p : Int)) < 0 := by omega
  generalize opF .quo (fi n) (tenF p) = y at *
  generalize fi n = x at *
  go_enter Try.func40, Try.ntmps40
  go_wp2_with (go_at_call 55; refine (power_any _ _ HP.out).mono ?_; rintro e w' ⟨rfl, hw⟩; subst hw)
  go_ret
  exact ⟨rfl, rfl⟩
theorem scaled_any (n dec : Int) (h : n.natAbs < 9007199254740992) (h1 : -3 ≤ dec) (h2 : dec ≤ 6) (w : World) : Calls Try.prog 40 #[.float .f64 (fi n), .int .i64 (-dec)] w fun e w' => e = .returned (.float .f64 (vl dec n)) ∧ w' = w := by
  by_cases c : dec < 0
  · obtain ⟨p, rfl⟩ : ∃ p : Nat, dec = -(p : Int) := ⟨(-dec).toNat, by omega⟩
    have := scaled_mul n h p (by omega) w
    unfold vl
    rw [if_pos c, Int.neg_neg, Int.toNat_natCast]
    exact this
  · by_cases c0 : dec = 0
    · subst c0
      have := scaled_mul n h 0 (by omega) w
      unfold vl
      rw [if_neg c]
      have a1 : opF .mul (fi n) (tenF 0) = fi n := by unfold opF; rw [show tenF 0 = 4607182418800017408 from rfl, mul_one n h]; rfl
      have a2 : opF .quo (fi n) (tenF (Int.toNat 0)) = fi n := by unfold opF; rw [show tenF (Int.toNat 0) = 4607182418800017408 from rfl, div_one n h]; rfl
      rw [a2]
      rw [a1] at this
      exact this
    · obtain ⟨p, rfl⟩ : ∃ p : Nat, dec = (p : Int) := ⟨dec.toNat, by omega⟩
      have := scaled_quo n h p (by omega) (by omega) w
      unfold vl
      rw [if_neg c, Int.toNat_natCast]
      exact this

set_option maxHeartbeats 400000 in
theorem ten_pos (p : Nat) (hp : p ≤ 6) (w : World) : Calls Try.prog 41 #[.int .i64 (p : Int)] w fun e w' => e = .returned (.float .f64 (tenF p)) ∧ w' = w := by
  have HT : Hid (floatOfInt .f64 ((10 : Int) ^ p) = tenF p) := ten_int p hp
  have HP : Hid (p ≤ 6) := hp
  have i0 : ¬ ((p : Int) < 0) := by omega
  go_enter Try.func41, Try.ntmps41
  go_wp2_with (go_at_call 56; refine (lten_any _ _ HP.out).mono ?_; rintro e w' ⟨rfl, hw⟩; subst hw)
  go_ret
  exact ⟨congrArg (fun x => Ending.returned (Value.float .f64 x)) HT.out, rfl⟩
set_option maxHeartbeats 400000 in
theorem ten_neg (p : Nat) (hp : p ≤ 6) (h1 : 1 ≤ p) (w : World) : Calls Try.prog 41 #[.int .i64 (-(p : Int))] w fun e w' => e = .returned (.float .f64 (tenF p)) ∧ w' = w := by
  have HT : Hid (floatOfInt .f64 ((10 : Int) ^ p) = tenF p) := ten_int p hp
  have HP : Hid (p ≤ 6) := hp
  have i0 : (-(p : Int)) < 0 := by omega
  go_enter Try.func41, Try.ntmps41
  go_wp2_with (go_at_call 56; refine (lten_any _ _ HP.out).mono ?_; rintro e w' ⟨rfl, hw⟩; subst hw)
  go_ret
  exact ⟨congrArg (fun x => Ending.returned (Value.float .f64 x)) HT.out, rfl⟩
end Go.Proofs.Ytgajajpcjbpalaa.Fls
