/- Contracts for Nearest, in the program and in its model. -/
import Derived.Test.YtgajajpcjbpalaaKnD
import Derived.Test.YtgajajpcjbpalaaFltY
import Derived.BigQuiet
namespace Go.Proofs.Ytgajajpcjbpalaa.Flt
open Go.ChangeShapes Go.WideShapes Go.ChangeAt Go.RowKit

abbrev two (n : Int) (b : Bool) : Ending := .returned (.tuple #[.int .i64 n, .bool b])

theorem low_cmp (x : Nat) (h : rng x < 9218868437227405312) : FloatKind.f64.format.order x 14054727237768577024 = some (compare (key x) (-4831355200913801216)) := by
  have := order_key x 14054727237768577024 (by omega) (by decide +kernel)
  have k : key 14054727237768577024 = -4831355200913801216 := by decide +kernel
  rw [k] at this
  exact this
theorem high_cmp (x : Nat) (h : rng x < 9218868437227405312) : FloatKind.f64.format.order x 4831355200913801216 = some (compare (key x) 4831355200913801216) := by
  have := order_key x 4831355200913801216 (by omega) (by decide +kernel)
  have k : key 4831355200913801216 = 4831355200913801216 := by decide +kernel
  rw [k] at this
  exact this

theorem key_cases (x : Nat) : key x = (rng x : Int) ∨ key x = -(rng x : Int) := by
  unfold key sg
  cases sgn x
  · exact Or.inl rfl
  · exact Or.inr rfl

theorem inside (x : Nat) (h : rng x ≤ 4831355200913801216) : ∃ c d, FloatKind.f64.format.order x 14054727237768577024 = some c ∧ FloatKind.f64.format.order x 4831355200913801216 = some d ∧ (c = .gt ∨ c = .eq) ∧ (d = .lt ∨ d = .eq) := by
  refine ⟨_, _, low_cmp x (by omega), high_cmp x (by omega), ?_, ?_⟩
  · by_cases c : key x = -4831355200913801216
    · right; exact c_eq c
    · left; exact c_gt (by have := key_cases x; omega)
  · by_cases c : key x = 4831355200913801216
    · right; exact c_eq c
    · left; exact c_lt (by have := key_cases x; omega)
theorem outside (x : Nat) (h : 4831355200913801216 < rng x) (h2 : rng x < 9218868437227405312) : FloatKind.f64.format.order x 14054727237768577024 = some .lt ∨ FloatKind.f64.format.order x 14054727237768577024 = some .gt ∧ FloatKind.f64.format.order x 4831355200913801216 = some .gt := by
  rw [low_cmp x h2, high_cmp x h2]
  rcases key_cases x with c | c
  · right; exact ⟨by rw [c_gt (by omega)], by rw [c_gt (by omega)]⟩
  · left; rw [c_lt (by omega)]

set_option maxHeartbeats 1000000 in
theorem whole_yes (x : Nat) (w : World) (h : rng x ≤ 4831355200913801216) :
    Calls Try.prog 57 #[.float .f64 x] w fun e w' => e = .returned (.bool true) ∧ ∃ m, w' = w.drewN m := by
  obtain ⟨c, d, h1, h2, h3, h4⟩ := inside x h
  rcases h3 with rfl | rfl <;> rcases h4 with rfl | rfl
  all_goals
    go_enter Try.func57, Try.ntmps57
    go_wp2_with fail
    refine (known_yes x _ (by omega)).mono ?_
    rintro e w1 ⟨rfl, hw⟩
    subst hw
    go_wp2_with fail
    go_ret
    exact ⟨rfl, 0, rfl⟩

set_option maxHeartbeats 1000000 in
theorem whole_no (x : Nat) (w : World) (h : 4831355200913801216 < rng x) :
    Calls Try.prog 57 #[.float .f64 x] w fun e w' => e = .returned (.bool false) ∧ ∃ m, w' = w.drewN m := by
  by_cases hk : rng x < 9218868437227405312
  · rcases outside x h hk with h1 | ⟨h1, h2⟩
    all_goals
      go_enter Try.func57, Try.ntmps57
      go_wp2_with fail
      refine (known_yes x _ hk).mono ?_
      rintro e w1 ⟨rfl, hw⟩
      subst hw
      go_wp2_with fail
      go_ret
      exact ⟨rfl, 0, rfl⟩
  · go_enter Try.func57, Try.ntmps57
    go_wp2_with fail
    refine (known_no x _ (by omega)).mono ?_
    rintro e w1 ⟨rfl, hw⟩
    subst hw
    go_wp2_with fail
    go_ret
    exact ⟨rfl, 1, rfl⟩

set_option maxHeartbeats 1000000 in
theorem snear_no (x : Nat) (w : World) (h : 4831355200913801216 < rng x) :
    Calls Try.prog 42 #[.float .f64 x] w fun e w' => e = two 0 false ∧ ∃ m, w' = w.drewN m := by
  go_enter Try.func42, Try.ntmps42
  go_wp2_with fail
  refine (whole_no x _ h).mono ?_
  rintro e w1 ⟨rfl, m, hw⟩
  subst hw
  go_wp2_with fail
  go_ret2
  exact ⟨rfl, m, rfl⟩

theorem conv_int (x : Nat) (h : rng x ≤ 4831355200913801216) (w : World) : (convert 40 2 (.float .f64 x)).run Try.prog w = .ok (.int .i64 (sg (sgn x) (val (rng x) / U))) w :=
  run_convert_float_int w 40 2 .f64 .i64 x _ (by rw [Try.underlying40]; rfl) Try.underlying2 (toInt_val x h)

set_option maxHeartbeats 1000000 in
theorem snear_yes (x : Nat) (w : World) (h : rng x ≤ 4831355200913801216) :
    Calls Try.prog 42 #[.float .f64 x] w fun e w' => e = two (near x) true ∧ ∃ m, w' = w.drewN m := by
  have hci := conv_int x h
  obtain ⟨b1, b2, b3, b4⟩ := near_small x h
  have hfl := floor_of x
  obtain ⟨z, c, r1, r2, r3, r4⟩ := rest x h _ rfl b1
  have hno := near_of x
  obtain ⟨f1, f2, f3⟩ := fl_num _ b2
  have ho := ord_num (floatOfInt .f64 (sg (sgn x) (val (rng x) / U))) x (by omega) (by omega)
  rw [f2] at ho
  have hq := q_le x h
  have hn0 : -1000000000000000 ≤ sg (sgn x) (val (rng x) / U) ∧ sg (sgn x) (val (rng x) / U) ≤ 1000000000000000 := by
    generalize val (rng x) / U = q at *
    unfold sg
    split <;> omega
  generalize sg (sgn x) (val (rng x) / U) = n0 at *
  obtain ⟨n, hn⟩ : ∃ n, n = num x / (U : Int) := ⟨_, rfl⟩
  rw [← hn] at hfl r1 r4 hno b1 b3 b4
  have hsub : ∀ w, (binOp .sub 40 (.float .f64 x) (.float .f64 (floatOfInt .f64 n))).run Try.prog w = .ok (.float .f64 z) w := fun w => run_float_arith w .sub 40 .f64 x _ z r1
  have hh : FloatKind.f64.format.order z 4602678819172646912 = some c := r2
  have hno2 : near x = n + if c = .gt ∨ c = .eq ∧ n % 2 ≠ 0 then 1 else 0 := by
    rw [hno]
    congr 1
    by_cases q : c = .gt ∨ c = .eq ∧ n % 2 ≠ 0
    · rw [if_pos q, if_pos (r4.1 q)]
    · rw [if_neg q, if_neg (fun t => q (r4.2 t))]
  have tm : n.tmod 2 = 0 ↔ n % 2 = 0 := by
    constructor
    · intro t; exact Int.emod_eq_zero_of_dvd (Int.dvd_of_tmod_eq_zero t)
    · intro t; exact Int.tmod_eq_zero_of_dvd (Int.dvd_of_emod_eq_zero t)
  clear hno r4 r1 r2 f1 f2 f3 hq
  obtain ⟨N, hN⟩ : ∃ N, near x = N := ⟨_, rfl⟩
  rw [hN] at hno2 ⊢
  have step : (n0 = n + 1 ∧ FloatKind.f64.format.order (floatOfInt .f64 n0) x = some .gt) ∨ n0 = n ∧ ∃ k, FloatKind.f64.format.order (floatOfInt .f64 n0) x = some k ∧ k ≠ .gt := by
    by_cases hg : num x < n0 * (U : Int)
    · rw [if_pos hg] at hfl
      rw [c_gt hg] at ho
      exact Or.inl ⟨by omega, ho⟩
    · rw [if_neg hg] at hfl
      refine Or.inr ⟨hfl.symm, _, ho, ?_⟩
      by_cases e : num x = n0 * (U : Int)
      · rw [c_eq e.symm]; decide
      · rw [c_lt (by omega)]; decide
  have last : (c = .lt ∧ N = n) ∨ (c = .gt ∧ N = n + 1) ∨ (c = .eq ∧ n.tmod 2 = 0 ∧ N = n) ∨ (c = .eq ∧ ¬ n.tmod 2 = 0 ∧ N = n + 1) := by
    cases c
    · left; exact ⟨rfl, by simpa using hno2⟩
    · right; right
      by_cases q : n.tmod 2 = 0
      · left
        have q2 := tm.1 q
        exact ⟨rfl, q, by simpa [q2] using hno2⟩
      · right
        have q2 : ¬ n % 2 = 0 := fun t => q (tm.2 t)
        exact ⟨rfl, q, by simpa [q2] using hno2⟩
    · right; left; exact ⟨rfl, by simpa using hno2⟩
  clear hno2 tm hfl ho hn hN hn0
  rcases step with ⟨rfl, ho⟩ | ⟨rfl, k, ho, hk⟩
  · rcases last with ⟨rfl, rfl⟩ | ⟨rfl, rfl⟩ | ⟨rfl, hp, rfl⟩ | ⟨rfl, hp, rfl⟩
    all_goals
      go_enter Try.func42, Try.ntmps42
      go_wp2_with fail
      refine (whole_yes x _ h).mono ?_
      rintro e w1 ⟨rfl, m, hw⟩
      subst hw
      go_wp2_with fail
      go_ret2
      exact ⟨rfl, m, rfl⟩
  · cases k
    · rcases last with ⟨rfl, rfl⟩ | ⟨rfl, rfl⟩ | ⟨rfl, hp, rfl⟩ | ⟨rfl, hp, rfl⟩
      all_goals
        go_enter Try.func42, Try.ntmps42
        go_wp2_with fail
        refine (whole_yes x _ h).mono ?_
        rintro e w1 ⟨rfl, m, hw⟩
        subst hw
        go_wp2_with fail
        go_ret2
        exact ⟨rfl, m, rfl⟩
    · rcases last with ⟨rfl, rfl⟩ | ⟨rfl, rfl⟩ | ⟨rfl, hp, rfl⟩ | ⟨rfl, hp, rfl⟩
      all_goals
        go_enter Try.func42, Try.ntmps42
        go_wp2_with fail
        refine (whole_yes x _ h).mono ?_
        rintro e w1 ⟨rfl, m, hw⟩
        subst hw
        go_wp2_with fail
        go_ret2
        exact ⟨rfl, m, rfl⟩
    · exact absurd rfl hk
end Go.Proofs.Ytgajajpcjbpalaa.Flt
