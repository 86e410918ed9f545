/- What a value is scaled to, and its nearest whole number: the program and the model. -/
import Derived.Test.YtgajajpcjbpalaaNearD
import Derived.Test.YtgajajpcjbpalaaXoG
import Derived.Test.YtgajajpcjbpalaaXoA
namespace Go.Proofs.Ytgajajpcjbpalaa.Pkd
open Go.ChangeShapes Go.WideShapes Go.ChangeAt Go.RowKit
open Go.Proofs.Ytgajajpcjbpalaa.Lists Go.Proofs.Ytgajajpcjbpalaa.Flt Go.Proofs.Ytgajajpcjbpalaa.Fls


theorem ten_rng (p : Nat) (h : p ≤ 6) : 0 < rng (tenF p) ∧ rng (tenF p) < 9218868437227405312 := by
  rcases (by omega : p = 0 ∨ p = 1 ∨ p = 2 ∨ p = 3 ∨ p = 4 ∨ p = 5 ∨ p = 6) with rfl | rfl | rfl | rfl | rfl | rfl | rfl <;> decide +kernel
theorem ten_nn (p : Nat) (h : p ≤ 6) : nan (tenF p) = false := decide_eq_false (by have := ten_rng p h; omega)
theorem mul_ten (x p : Nat) (hn : nan x = false) (hp : p ≤ 6) : floatBits .mul .f64 x (tenF p) = some (opF .mul x (tenF p)) := by
  have key : ∃ r, floatBits .mul .f64 x (tenF p) = some r := by
    obtain ⟨m, e, h1, h2⟩ := ten_read p hp
    show ∃ r, Ieee.double.mul x (tenF p) = some r
    unfold Ieee.Format.mul
    rw [h1]
    rcases read_of_num hn with ⟨s, h⟩ | ⟨s, m', p', h⟩
    · rw [h]
      cases m with
      | zero => exact absurd rfl h2
      | succ k => exact ⟨_, rfl⟩
    · rw [h]; exact ⟨_, rfl⟩
  obtain ⟨r, h⟩ := key
  unfold opF; rw [h]; rfl
theorem quo_ten (x p : Nat) (hn : nan x = false) (hp : p ≤ 6) : floatBits .quo .f64 x (tenF p) = some (opF .quo x (tenF p)) := by
  obtain ⟨h0, h1⟩ := ten_rng p hp
  obtain ⟨r, h, _⟩ := div_some x (tenF p) (by unfold nan at hn; simpa using hn) h0 h1
  have h : floatBits .quo .f64 x (tenF p) = some r := h
  unfold opF; rw [h]; rfl

/-- A value that is scaled, its nearest whole number, and whether that fits. -/
def sc (dec : Int) (x : Nat) : Nat := if dec < 0 then opF .quo x (tenF (-dec).toNat) else opF .mul x (tenF dec.toNat)
def kb (dec : Int) (x : Nat) : Bool := decide (rng (sc dec x) ≤ 4831355200913801216)
def nn (dec : Int) (x : Nat) : Int := if kb dec x then near (sc dec x) else 0
def fb (dec : Int) (x : Nat) : Bool := kb dec x && (decide (-1099511627776 ≤ nn dec x) && decide (nn dec x ≤ 1099511627776))
theorem sc_lt (dec : Int) (x : Nat) (hn : nan x = false) (h1 : -3 ≤ dec) (h2 : dec ≤ 6) : sc dec x < 18446744073709551616 := by
  unfold sc
  split
  · exact (bits_num .quo (quo_ten x _ hn (by omega))).2
  · exact (bits_num .mul (mul_ten x _ hn (by omega))).2

set_option maxHeartbeats 1000000 in
theorem iscaled (x : Nat) (dec : Int) (hn : nan x = false) (h1 : -3 ≤ dec) (h2 : dec ≤ 6) (w : World) : Calls Try.prog 40 #[.float .f64 x, .int .i64 dec] w fun e w' => e = .returned (.float .f64 (sc dec x)) ∧ w' = w := by
  by_cases c : dec < 0
  · have e1 : sc dec x = opF .quo x (tenF (-dec).toNat) := if_pos c
    have hm : ∀ w, (binOp .quo 40 (.float .f64 x) (.float .f64 (tenF (-dec).toNat))).run Try.prog w = .ok (.float .f64 (sc dec x)) w := fun w => by rw [e1]; exact run_float_arith w .quo 40 .f64 _ _ _ (quo_ten x _ hn (by omega))
    have hp : (-dec).toNat ≤ 6 := by omega
    have hw : IntKind.i64.wrap (-dec) = (((-dec).toNat : Nat) : Int) := by rw [IntWalk.i64_in _ (by omega)]; omega
    have hw2 : wrap64 (-dec) = (((-dec).toNat : Nat) : Int) := by rw [IntWalk.wrap64_in _ (by omega)]; omega
    have HP : Hid ((-dec).toNat ≤ 6) := hp
    clear e1 hp
    generalize (-dec).toNat = p at *
    generalize sc dec x = z at *
    go_enter Try.func40, Try.ntmps40
    go_wp2_with fail
    refine (power_any p w HP.out).mono ?_
    rintro e w' ⟨rfl, hw⟩; subst hw
    go_wp2_with fail
    go_ret
    exact ⟨rfl, rfl⟩
  · have e1 : sc dec x = opF .mul x (tenF dec.toNat) := if_neg c
    obtain ⟨p, rfl⟩ : ∃ p : Nat, dec = (p : Int) := ⟨dec.toNat, by omega⟩
    rw [Int.toNat_natCast] at e1
    have hp : p ≤ 6 := by omega
    have hm : ∀ w, (binOp .mul 40 (.float .f64 x) (.float .f64 (tenF p))).run Try.prog w = .ok (.float .f64 (sc p x)) w := fun w => by rw [e1]; exact run_float_arith w .mul 40 .f64 _ _ _ (mul_ten x _ hn hp)
    have HP : Hid (p ≤ 6) := hp
    clear e1 hp
    generalize sc p x = z at *
    go_enter Try.func40, Try.ntmps40
    go_wp2_with fail
    refine (power_any p w HP.out).mono ?_
    rintro e w' ⟨rfl, hw⟩; subst hw
    go_wp2_with fail
    go_ret
    exact ⟨rfl, rfl⟩

theorem snear (x : Nat) (dec : Int) (w : World) : Calls Try.prog 42 #[.float .f64 (sc dec x)] w fun e w' => e = two (nn dec x) (kb dec x) ∧ ∃ m, w' = w.drewN m := by
  unfold nn kb
  by_cases h : rng (sc dec x) ≤ 4831355200913801216
  · simp only [h, decide_true, if_true]; exact snear_yes _ w h
  · simp only [h, decide_false]; exact snear_no _ w (by omega)
theorem inear (x : Nat) (dec : Int) (w : World) (hn : nan x = false) (h1 : -3 ≤ dec) (h2 : dec ≤ 6) : Calls Try.prog 45 #[.float .f64 (sc dec x)] w fun e w' => e = two (nn dec x) (kb dec x) ∧ ∃ m, w' = w.drewN m := by
  have hl := sc_lt dec x hn h1 h2
  unfold nn kb
  by_cases h : rng (sc dec x) ≤ 4831355200913801216
  · simp only [h, decide_true, if_true]; exact inear_yes _ w hl h
  · simp only [h, decide_false]; exact inear_no _ w hl (by omega)

set_option maxHeartbeats 1000000 in
theorem sscaled (x : Nat) (dec : Int) (hn : nan x = false) (h1 : -3 ≤ dec) (h2 : dec ≤ 6) (w : World) : Calls Try.prog 18 #[.float .f64 x, .int .i64 dec] w fun e w' => e = two (nn dec x) (fb dec x) ∧ ∃ m, w' = w.drewN m := by
  have HN : Hid (∀ w, Calls Try.prog 42 #[.float .f64 (sc dec x)] w fun e w' => e = two (nn dec x) (kb dec x) ∧ ∃ m, w' = w.drewN m) := snear x dec
  have HF : Hid (fb dec x = (kb dec x && (decide (-1099511627776 ≤ nn dec x) && decide (nn dec x ≤ 1099511627776)))) := rfl
  have HW : Hid (∀ (n : Int) (w : World), Calls Try.prog 43 #[.int .i64 n, .int .i64 (-1099511627776), .int .i64 1099511627776] w fun e w' => e = .returned (.bool (decide (-1099511627776 ≤ n) && decide (n ≤ 1099511627776))) ∧ w' = w) := fun n w => sin_any n _ _ w
  by_cases c : dec < 0
  · have e1 : sc dec x = opF .quo x (tenF (-dec).toNat) := if_pos c
    have hm : ∀ w, (binOp .quo 40 (.float .f64 x) (.float .f64 (tenF (-dec).toNat))).run Try.prog w = .ok (.float .f64 (sc dec x)) w := fun w => by rw [e1]; exact run_float_arith w .quo 40 .f64 _ _ _ (quo_ten x _ hn (by omega))
    obtain ⟨p, rfl⟩ : ∃ p : Nat, dec = -(p : Int) := ⟨(-dec).toNat, by omega⟩
    have hp : p ≤ 6 ∧ 1 ≤ p := by omega
    rw [Int.neg_neg, Int.toNat_natCast] at hm
    have HP : Hid (p ≤ 6 ∧ 1 ≤ p) := hp
    clear e1 hp
    generalize nn (-(p : Int)) x = n at *
    generalize fb (-(p : Int)) x = f at *
    generalize sc (-(p : Int)) x = z at *
    cases kq : kb (-(p : Int)) x
    · rw [kq] at HN HF
      go_enter Try.func18, Try.ntmps18
      go_wp2_with fail
      refine (ten_neg p HP.out.1 HP.out.2 w).mono ?_
      rintro e w' ⟨rfl, hw⟩; subst hw
      go_wp2_with fail
      refine (HN.out _).mono ?_
      rintro e w' ⟨rfl, m, hw⟩; subst hw
      go_wp2_with fail
      go_ret2
      exact ⟨by rw [HF.out]; rfl, _, rfl⟩
    · rw [kq] at HN HF
      go_enter Try.func18, Try.ntmps18
      go_wp2_with fail
      refine (ten_neg p HP.out.1 HP.out.2 w).mono ?_
      rintro e w' ⟨rfl, hw⟩; subst hw
      go_wp2_with fail
      refine (HN.out _).mono ?_
      rintro e w' ⟨rfl, m, hw⟩; subst hw
      go_wp2_with fail
      refine (HW.out n _).mono ?_
      rintro e w' ⟨rfl, hw⟩; subst hw
      go_wp2_with fail
      go_ret2
      exact ⟨by rw [HF.out]; rfl, _, rfl⟩
  · have e1 : sc dec x = opF .mul x (tenF dec.toNat) := if_neg c
    obtain ⟨p, rfl⟩ : ∃ p : Nat, dec = (p : Int) := ⟨dec.toNat, by omega⟩
    rw [Int.toNat_natCast] at e1
    have hp : p ≤ 6 := by omega
    have hm : ∀ w, (binOp .mul 40 (.float .f64 x) (.float .f64 (tenF p))).run Try.prog w = .ok (.float .f64 (sc p x)) w := fun w => by rw [e1]; exact run_float_arith w .mul 40 .f64 _ _ _ (mul_ten x _ hn hp)
    have HP : Hid (p ≤ 6) := hp
    clear e1 hp
    generalize nn (p : Int) x = n at *
    generalize fb (p : Int) x = f at *
    generalize sc (p : Int) x = z at *
    cases kq : kb (p : Int) x
    · rw [kq] at HN HF
      go_enter Try.func18, Try.ntmps18
      go_wp2_with fail
      refine (ten_pos p HP.out w).mono ?_
      rintro e w' ⟨rfl, hw⟩; subst hw
      go_wp2_with fail
      refine (HN.out _).mono ?_
      rintro e w' ⟨rfl, m, hw⟩; subst hw
      go_wp2_with fail
      go_ret2
      exact ⟨by rw [HF.out]; rfl, _, rfl⟩
    · rw [kq] at HN HF
      go_enter Try.func18, Try.ntmps18
      go_wp2_with fail
      refine (ten_pos p HP.out w).mono ?_
      rintro e w' ⟨rfl, hw⟩; subst hw
      go_wp2_with fail
      refine (HN.out _).mono ?_
      rintro e w' ⟨rfl, m, hw⟩; subst hw
      go_wp2_with fail
      refine (HW.out n _).mono ?_
      rintro e w' ⟨rfl, hw⟩; subst hw
      go_wp2_with fail
      go_ret2
      exact ⟨by rw [HF.out]; rfl, _, rfl⟩

set_option maxHeartbeats 400000 in
theorem isnan_any (x : Nat) (w : World) : Calls Try.prog 44 #[.float .f64 x] w fun e w' => e = .returned (.bool (nan x)) ∧ w' = w := by
  have n1 := self_ne x
  go_enter Try.func44, Try.ntmps44
  go_wp2
  go_ret
  exact ⟨rfl, rfl⟩

end Go.Proofs.Ytgajajpcjbpalaa.Pkd
