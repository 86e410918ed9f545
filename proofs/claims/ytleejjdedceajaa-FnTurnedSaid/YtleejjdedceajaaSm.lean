/- Whether two numbers are the same: the model. -/
import Derived.Test.YtleejjdedceajaaNanC
namespace Go.Proofs.Ytleejjdedceajaa.Flt
open Go.ChangeShapes Go.WideShapes Go.ChangeAt Go.RowKit
set_option maxHeartbeats 400000 in
theorem minus_any (x : Nat) (w : World) (h : rng x ≤ 9218868437227405312) :
    Calls Try.prog 18 #[.float .f64 x] w fun e w' => e = .returned (.bool (sgn x)) ∧ w' = w := by
  have ho : ord x 0 = some (compare (key x) 0) := order_key x 0 h (by decide)
  by_cases hz : rng x = 0
  · have hk : key x = 0 := by unfold key; rw [hz]; cases sgn x <;> rfl
    have o1 : (ord x 0 == some .lt) = false := by rw [ho, hk]; rfl
    have o2 : (ord x 0 == some .eq) = true := by rw [ho, hk]; rfl
    have hq : ∀ w, (binOp .quo 25 (.float .f64 4607182418800017408) (.float .f64 x)).run Try.prog w = .ok (.float .f64 (if sgn x then 18442240474082181120 else 9218868437227405312)) w := fun w => run_float_arith w .quo 25 .f64 _ _ _ (div_zero x hz)
    have o3 : (ord (if sgn x then 18442240474082181120 else 9218868437227405312) 0 == some .lt) = sgn x := by
      have := order_key (if sgn x then 18442240474082181120 else 9218868437227405312) 0 (by rw [(sgn_inf (sgn x)).2]; omega) (by decide)
      show (Ieee.double.order _ _ == _) = _
      rw [this, (sgn_inf (sgn x)).1]
      cases sgn x <;> rfl
    generalize (if sgn x then 18442240474082181120 else 9218868437227405312) = y at *
    generalize sgn x = s at *
    clear hk ho
    cases s
    · go_enter Try.func18, Try.ntmps18
      go_wp2
      go_ret
      exact ⟨rfl, rfl⟩
    · go_enter Try.func18, Try.ntmps18
      go_wp2
      go_ret
      exact ⟨rfl, rfl⟩
  · cases hs : sgn x
    · have hk : 0 < key x := by unfold key; rw [hs]; simp [sg]; omega
      have o1 : (ord x 0 == some .lt) = false := by rw [ho, c_gt hk]; rfl
      have o2 : (ord x 0 == some .eq) = false := by rw [ho, c_gt hk]; rfl
      clear ho hk hs
      go_enter Try.func18, Try.ntmps18
      go_wp2
      go_ret
      exact ⟨rfl, rfl⟩
    · have hk : key x < 0 := by unfold key; rw [hs]; simp [sg]; omega
      have o1 : (ord x 0 == some .lt) = true := by rw [ho, c_lt hk]; rfl
      clear ho hk hs
      go_enter Try.func18, Try.ntmps18
      go_wp2
      go_ret
      exact ⟨rfl, rfl⟩

theorem sgn_key {a b : Nat} (ha : a < 18446744073709551616) (hb : b < 18446744073709551616) : (key a = key b ∧ sgn a = sgn b) ↔ a = b := by
  constructor
  · intro ⟨h1, h2⟩
    unfold key at h1
    rw [h2] at h1
    have hr : rng a = rng b := by cases hs : sgn b <;> rw [hs] at h1 <;> simp [sg] at h1 <;> omega
    have hq : a / 9223372036854775808 % 2 = b / 9223372036854775808 % 2 := by
      unfold sgn at h2
      have x1 : a / 9223372036854775808 % 2 < 2 := Nat.mod_lt _ (by omega)
      have x2 : b / 9223372036854775808 % 2 < 2 := Nat.mod_lt _ (by omega)
      by_cases e : b / 9223372036854775808 % 2 = 1
      · rw [e] at h2; simp at h2; omega
      · have e' : b / 9223372036854775808 % 2 = 0 := by omega
        rw [e'] at h2; simp at h2; omega
    unfold rng at hr
    omega
  · rintro rfl; exact ⟨rfl, rfl⟩

set_option maxHeartbeats 1000000 in
theorem same_any (a b : Nat) (w : World) (ha : a < 18446744073709551616) (hb : b < 18446744073709551616) :
    Calls Try.prog 7 #[.float .f64 a, .float .f64 b] w fun e w' => e = .returned (.bool (sameB a b)) ∧ w' = w := by
  have n1 := self_ne a
  have n2 := self_ne b
  cases ea : nan a
  · cases eb : nan b
    · have ra : rng a ≤ 9218868437227405312 := by have := ea; unfold nan at this; simpa using this
      have rb : rng b ≤ 9218868437227405312 := by have := eb; unfold nan at this; simpa using this
      have ho : ord a b = some (compare (key a) (key b)) := order_key a b ra rb
      rw [ea] at n1
      rw [eb] at n2
      have hs : sameB a b = decide (a = b) := by unfold sameB; rw [ea, eb]; rfl
      by_cases hk : key a = key b
      · have o1 : (ord a b == some .eq) = true := by rw [ho, c_eq hk]; rfl
        have hm : (sgn a == sgn b) = sameB a b := by
          rw [hs, Bool.eq_iff_iff]
          simp only [beq_iff_eq, decide_eq_true_eq]
          exact ⟨fun x => (sgn_key ha hb).1 ⟨hk, x⟩, fun x => by rw [x]⟩
        have M1 : Hid (rng a ≤ 9218868437227405312) := ra
        have M2 : Hid (rng b ≤ 9218868437227405312) := rb
        clear ho hk hs ea eb ra rb
        rw [← hm]
        clear hm
        go_enter Try.func7, Try.ntmps7
        go_wp2_with fail
        refine (minus_any _ _ M1.out).mono ?_
        rintro e w' ⟨rfl, rfl⟩
        go_wp2_with fail
        refine (minus_any _ _ M2.out).mono ?_
        rintro e w' ⟨rfl, rfl⟩
        go_wp2_with fail
        go_ret
        exact ⟨rfl, rfl⟩
      · have o1 : (ord a b == some .eq) = false := by
          rw [ho]
          by_cases x : key a < key b
          · rw [c_lt x]; rfl
          · rw [c_gt (by omega)]; rfl
        have hm : sameB a b = false := by
          rw [hs]
          exact decide_eq_false (fun x => hk (by rw [x]))
        rw [hm]
        clear ho hk hs ea eb ra rb hm
        go_enter Try.func7, Try.ntmps7
        go_wp2
        go_ret
        exact ⟨rfl, rfl⟩
    · have hs : sameB a b = false := by unfold sameB; rw [ea, eb]; rfl
      rw [ea] at n1
      rw [eb] at n2
      rw [hs]
      clear hs ea eb
      go_enter Try.func7, Try.ntmps7
      go_wp2
      go_ret
      exact ⟨rfl, rfl⟩
  · have hs : sameB a b = nan b := by unfold sameB; rw [ea]; cases nan b <;> rfl
    rw [ea] at n1
    rw [hs]
    clear hs ea
    cases eb : nan b
    · rw [eb] at n2
      clear eb
      go_enter Try.func7, Try.ntmps7
      go_wp2
      go_ret
      exact ⟨rfl, rfl⟩
    · rw [eb] at n2
      clear eb
      go_enter Try.func7, Try.ntmps7
      go_wp2
      go_ret
      exact ⟨rfl, rfl⟩

end Go.Proofs.Ytleejjdedceajaa.Flt
