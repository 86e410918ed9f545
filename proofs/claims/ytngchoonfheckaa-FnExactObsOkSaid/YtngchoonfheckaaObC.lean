/- Steps and what lies in them: the program. -/
import Derived.Test.YtngchoonfheckaaObB
namespace Go.Proofs.Ytngchoonfheckaa.Flt
open Go.ChangeShapes Go.WideShapes Go.ChangeAt Go.RowKit
attribute [local go_sem] run_store_float

set_option maxHeartbeats 1000000 in
theorem steps_any (x : Nat) (z : Int) (w : World) (hx : x < 18446744073709551616) (hz : 1 ≤ z) : Calls Try.prog 30 #[.float .f64 x, .int .i64 z] w fun e w' => e = two (stp x z).1 (stp x z).2 ∧ Below w.heap.size w w' := by
  have hm : ∀ x y w, (binOp .mul 24 (.float .f64 x) (.float .f64 y)).run Try.prog w = .ok (.float .f64 (opB .mul x y w)) (w.drewN (opD .mul x y)) := fun x y w => run_op Try.prog .mul arMul 24 x y w
  have HT : Hid (∀ w, nr (opB .mul x 4621819117588971520 w) = tt x) := (by intro w; rw [← nr_cn, cn_op]; rfl)
  have HO : Hid (∀ w, opB .mul x 4621819117588971520 w < 18446744073709551616) := fun w => op_lt _ _ _ _
  have HA : Hid ((tt x).1.natAbs ≤ 1000000000000000) := nr_abs _
  have HP : Hid (((tt x).1.tdiv z * z).natAbs ≤ 1000000000000000) := (by
    show _ ≤ _
    have h1 := nr_abs (opF .mul (cn x) ten)
    have h2 : ((tt x).1.tdiv z * z).natAbs ≤ (tt x).1.natAbs := by
      rw [Int.natAbs_mul, Int.natAbs_tdiv]
      exact Nat.div_mul_le_self _ _
    exact Nat.le_trans h2 h1)
  have ES : Hid (stp x z = ((tt x).1.tdiv z, (tt x).2 && sameB (dv ((tt x).1.tdiv z * z)) x)) := rfl
  have z0 : (z == 0) = false := by simp; omega
  have z1 : z ≠ 0 := by omega
  have HX : Hid (x < 18446744073709551616) := hx
  obtain ⟨n, hn⟩ : ∃ n, (tt x).1 = n := ⟨_, rfl⟩
  obtain ⟨k, hk⟩ : ∃ k, (tt x).2 = k := ⟨_, rfl⟩
  rw [hn, hk] at ES
  rw [hn] at HA HP
  have HN : Hid ((tt x).1 = n ∧ (tt x).2 = k) := ⟨hn, hk⟩
  obtain ⟨s, hs⟩ : ∃ s, n.tdiv z = s := ⟨_, rfl⟩
  rw [hs] at ES HP
  have HS : Hid (s.natAbs ≤ 1000000000000000) := (by show _ ≤ _; rw [← hs, Int.natAbs_tdiv]; exact Nat.le_trans (Nat.div_le_self _ _) HA.out)
  have j1 : IntKind.i64.wrap s = s := IntWalk.i64_in _ (by have := HS.out; omega)
  rw [ES.out]
  dsimp only
  clear hx hn hk
  go_enter Try.func30, Try.ntmps30
  go_wp2_with fail
  refine (inr _ _ (HO.out _)).mono ?_
  rintro e w1 ⟨rfl, m, hw1⟩
  rw [HT.out, HN.out.1, HN.out.2]
  have B1 : Hid (Below w.heap.size w w1) := (by show Below _ _ _; rw [hw1]; exact below_drewN (below_drewN (Below.refl _ _) _) _)
  clear hw1
  cases k
  · go_wp2_with fail
    go_ret2
    exact ⟨rfl, B1.out⟩
  · go_wp2_with fail
    refine (amount_any _ _ _ HP.out).mono ?_
    rintro e w2 ⟨rfl, hw2⟩
    subst hw2
    go_wp2_with fail
    refine (isame_any _ _ _).mono ?_
    rintro e w3 ⟨rfl, hw3⟩
    subst hw3
    go_wp2_with fail
    go_ret2
    exact ⟨rfl, B1.out⟩

set_option maxHeartbeats 1000000 in
theorem stepsIn_any (x : Nat) (z lo hi : Int) (w : World) (hx : x < 18446744073709551616) (hz : 1 ≤ z) : Calls Try.prog 26 #[.float .f64 x, .int .i64 z, .int .i64 lo, .int .i64 hi] w fun e w' => e = .returned (.bool (sw x z lo hi)) ∧ Below w.heap.size w w' := by
  have HX : Hid (x < 18446744073709551616) := hx
  have ES : Hid (sw x z lo hi = ((stp x z).2 && inB (stp x z).1 lo hi)) := rfl
  rw [ES.out]
  generalize hk : (stp x z).2 = k
  generalize hn : (stp x z).1 = n
  have HN : Hid ((stp x z).1 = n ∧ (stp x z).2 = k) := ⟨hn, hk⟩
  clear hk hn hx
  go_enter Try.func26, Try.ntmps26
  go_wp2_with fail
  refine (steps_any _ _ _ HX.out hz).mono ?_
  rintro e w1 ⟨rfl, b1⟩
  rw [HN.out.1, HN.out.2]
  have B1 : Hid (Below w.heap.size w w1) := b1
  clear b1
  cases k
  · go_wp2_with fail
    go_ret
    exact ⟨rfl, B1.out⟩
  · go_wp2_with fail
    refine (within_any _ _ _ _).mono ?_
    rintro e w2 ⟨rfl, hw2⟩
    subst hw2
    go_wp2_with fail
    go_ret
    exact ⟨rfl, B1.out⟩

set_option maxHeartbeats 1000000 in
theorem missIn_any (x : Nat) (z lo hi : Int) (w : World) (hx : x < 18446744073709551616) (hz : 1 ≤ z) : Calls Try.prog 17 #[.float .f64 x, .int .i64 z, .int .i64 lo, .int .i64 hi] w fun e w' => e = .returned (.bool (nan x || sw x z lo hi)) ∧ Below w.heap.size w w' := by
  have HX : Hid (x < 18446744073709551616) := hx
  clear hx
  cases c : nan x
  · go_enter Try.func17, Try.ntmps17
    go_wp2_with fail
    refine (isnan_any _ _).mono ?_
    rintro e w1 ⟨rfl, hw1⟩
    subst hw1
    rw [c]
    go_wp2_with fail
    refine (stepsIn_any _ _ _ _ _ HX.out hz).mono ?_
    rintro e w2 ⟨rfl, b2⟩
    have B2 : Hid (Below w1.heap.size w1 w2) := b2
    clear b2
    go_wp2_with fail
    go_ret
    exact ⟨rfl, B2.out⟩
  · go_enter Try.func17, Try.ntmps17
    go_wp2_with fail
    refine (isnan_any _ _).mono ?_
    rintro e w1 ⟨rfl, hw1⟩
    subst hw1
    rw [c]
    go_wp2_with fail
    go_ret
    exact ⟨rfl, Below.refl _ _⟩
end Go.Proofs.Ytngchoonfheckaa.Flt
