/- Tenths, whole numbers and steps: the model and the program. -/
import Derived.Test.YtngchoonfheckaaObA
import Derived.Laws.Cover2
import Derived.WalkSmall
import Derived.Deep.RegionWith
import Derived.Deep.RegionHeld3
import Derived.Deep.DrawnRows
import Derived.Deep.Cut
import Derived.Deep.DeepCutAuto
import Derived.Deep.DeepMust
import Derived.Deep.QuietTactic
namespace Go.Proofs.Ytngchoonfheckaa.Flt
open Go.ChangeShapes Go.WideShapes Go.ChangeAt Go.RowKit
theorem run_store_float {P : Program} (w : World) (a : Addr) (m : Mode) (k : FloatKind) (b : Nat) : (store a (.float k b) m).run P w = stored P w a (.float k b) m := run_store P w a _ m rfl
attribute [local go_sem] run_store_float
theorem arMul : Arith .mul := .inr (.inr (.inl rfl))
theorem arQuo : Arith .quo := .inr (.inr (.inr rfl))

theorem snr (b : Nat) (w : World) : Calls Try.prog 22 #[.float .f64 b] w fun e w' => e = two (nr b).1 (nr b).2 ∧ ∃ m, w' = w.drewN m := by
  unfold nr
  by_cases h : rng b ≤ 4831355200913801216
  · rw [if_pos h]; exact snear_yes b w h
  · rw [if_neg h]; exact snear_no b w (by omega)
theorem inr (b : Nat) (w : World) (hb : b < 18446744073709551616) : Calls Try.prog 33 #[.float .f64 b] w fun e w' => e = two (nr b).1 (nr b).2 ∧ ∃ m, w' = w.drewN m := by
  unfold nr
  by_cases h : rng b ≤ 4831355200913801216
  · rw [if_pos h]; exact inear_yes b w hb h
  · rw [if_neg h]; exact inear_no b w hb (by omega)

set_option maxHeartbeats 400000 in
theorem within_any (n l h : Int) (w : World) : Calls Try.prog 16 #[.int .i64 n, .int .i64 l, .int .i64 h] w fun e w' => e = .returned (.bool (inB n l h)) ∧ w' = w := by
  unfold inB
  cases h1 : decide (l ≤ n)
  · have i1 : ¬ l ≤ n := by simpa using h1
    go_enter Try.func16, Try.ntmps16
    go_wp2
    go_ret
    exact ⟨rfl, rfl⟩
  · have i1 : l ≤ n := by simpa using h1
    go_enter Try.func16, Try.ntmps16
    go_wp2
    go_ret
    exact ⟨rfl, rfl⟩
set_option maxHeartbeats 400000 in
theorem in_any (n l h : Int) (w : World) : Calls Try.prog 13 #[.int .i64 n, .int .i64 l, .int .i64 h] w fun e w' => e = .returned (.bool (inB n l h)) ∧ w' = w := by
  unfold inB
  cases h1 : decide (l ≤ n)
  · have i1 : ¬ l ≤ n := by simpa using h1
    go_enter Try.func13, Try.ntmps13
    go_wp2
    go_ret
    exact ⟨rfl, rfl⟩
  · have i1 : l ≤ n := by simpa using h1
    go_enter Try.func13, Try.ntmps13
    go_wp2
    go_ret
    exact ⟨rfl, rfl⟩

set_option maxHeartbeats 1000000 in
theorem stenths (x : Nat) (lo hi : Int) (w : World) (hx : x < 18446744073709551616) : Calls Try.prog 24 #[.float .f64 x, .int .i64 lo, .int .i64 hi] w fun e w' => e = two (if tn x lo hi then (tt x).1 else 0) (tn x lo hi) ∧ Below w.heap.size w w' := by
  have hm : ∀ x y w, (binOp .mul 24 (.float .f64 x) (.float .f64 y)).run Try.prog w = .ok (.float .f64 (opB .mul x y w)) (w.drewN (opD .mul x y)) := fun x y w => run_op Try.prog .mul arMul 24 x y w
  have hq : ∀ w, (binOp .quo 24 (.float .f64 (floatOfInt .f64 (tt x).1)) (.float .f64 4621819117588971520)).run Try.prog w = .ok (.float .f64 (dv (tt x).1)) w := fun w => run_float_arith w .quo 24 .f64 _ _ _ (dv_run _ (nr_abs _))
  have HX : Hid (x < 18446744073709551616) := hx
  have HD : Hid (dv (tt x).1 < 18446744073709551616) := (bits_num _ (dv_run _ (nr_abs _))).2
  have HT : Hid (∀ w, nr (opB .mul x 4621819117588971520 w) = tt x) := (by intro w; rw [← nr_cn, cn_op]; rfl)
  have ET : Hid (tn x lo hi = ((tt x).2 && (inB (tt x).1 lo hi && sameB x (dv (tt x).1)))) := rfl
  have HI : Hid (inB (tt x).1 lo hi = (decide (lo ≤ (tt x).1) && decide ((tt x).1 ≤ hi))) := rfl
  obtain ⟨R, hR⟩ : ∃ R, tn x lo hi = R := ⟨_, rfl⟩
  rw [hR]
  rw [hR] at ET
  obtain ⟨n, hn⟩ : ∃ n, (tt x).1 = n := ⟨_, rfl⟩
  obtain ⟨k, hk⟩ : ∃ k, (tt x).2 = k := ⟨_, rfl⟩
  rw [hn, hk] at ET
  rw [hn] at hq HD HI ⊢
  have HN : Hid ((tt x).1 = n ∧ (tt x).2 = k) := ⟨hn, hk⟩
  generalize dv n = d at *
  obtain ⟨q, hq'⟩ : ∃ q, (if R = true then n else 0) = q := ⟨_, rfl⟩
  have HQ : Hid ((if R = true then n else 0) = q) := hq'
  rw [hq']
  clear hx hR hn hk hq'
  go_enter Try.func24, Try.ntmps24
  go_wp2_with fail
  refine (snr _ _).mono ?_
  rintro e w1 ⟨rfl, m, hw1⟩
  rw [HT.out, HN.out.1, HN.out.2]
  have B1 : Hid (Below w.heap.size w w1) := (by show Below _ _ _; rw [hw1]; exact below_drewN (below_drewN (Below.refl _ _) _) _)
  clear hw1
  cases k
  · have E : Hid (R = false) := ET.out
    go_wp2_with fail
    go_ret2
    exact ⟨by rw [← HQ.out, E.out]; rfl, B1.out⟩
  · by_cases l1 : n < lo
    · have E : Hid (R = false) := (by show _ = _; rw [ET.out, HI.out, decide_eq_false (by omega)]; rfl)
      go_wp2_with fail
      go_ret2
      exact ⟨by rw [← HQ.out, E.out]; rfl, B1.out⟩
    · by_cases l2 : hi < n
      · have E : Hid (R = false) := (by show _ = _; rw [ET.out, HI.out, decide_eq_false (by omega : ¬ n ≤ hi)]; simp)
        go_wp2_with fail
        go_ret2
        exact ⟨by rw [← HQ.out, E.out]; rfl, B1.out⟩
      · have E : Hid (R = sameB x d) := (by show _ = _; rw [ET.out, HI.out, decide_eq_true (by omega : lo ≤ n), decide_eq_true (by omega : n ≤ hi)]; simp)
        cases c : sameB x d
        · go_wp2_with (go_at_call 23; refine (same_any _ _ _ HX.out HD.out).mono ?_; rintro e w2 ⟨rfl, hw2⟩; subst hw2; rw [c])
          go_ret2
          exact ⟨by rw [← HQ.out, E.out, c]; rfl, B1.out⟩
        · go_wp2_with (go_at_call 23; refine (same_any _ _ _ HX.out HD.out).mono ?_; rintro e w2 ⟨rfl, hw2⟩; subst hw2; rw [c])
          go_ret2
          exact ⟨by rw [← HQ.out, E.out, c]; rfl, B1.out⟩
set_option maxHeartbeats 1000000 in
theorem sis (x : Nat) (lo hi : Int) (w : World) (hx : x < 18446744073709551616) : Calls Try.prog 12 #[.float .f64 x, .int .i64 lo, .int .i64 hi] w fun e w' => e = two (if iz x lo hi then (nr x).1 else 0) (iz x lo hi) ∧ Below w.heap.size w w' := by
  have HX : Hid (x < 18446744073709551616) := hx
  have HD : Hid (floatOfInt .f64 (nr x).1 < 18446744073709551616) := (fl_num _ (by have := nr_abs x; omega)).2.2
  have ET : Hid (iz x lo hi = ((nr x).2 && (inB (nr x).1 lo hi && sameB x (floatOfInt .f64 (nr x).1)))) := rfl
  have HI : Hid (inB (nr x).1 lo hi = (decide (lo ≤ (nr x).1) && decide ((nr x).1 ≤ hi))) := rfl
  obtain ⟨R, hR⟩ : ∃ R, iz x lo hi = R := ⟨_, rfl⟩
  rw [hR]
  rw [hR] at ET
  obtain ⟨n, hn⟩ : ∃ n, (nr x).1 = n := ⟨_, rfl⟩
  obtain ⟨k, hk⟩ : ∃ k, (nr x).2 = k := ⟨_, rfl⟩
  rw [hn, hk] at ET
  rw [hn] at HD HI ⊢
  have HN : Hid ((nr x).1 = n ∧ (nr x).2 = k) := ⟨hn, hk⟩
  obtain ⟨d, hd⟩ : ∃ d, floatOfInt .f64 n = d := ⟨_, rfl⟩
  rw [hd] at HD ET
  obtain ⟨q, hq'⟩ : ∃ q, (if R = true then n else 0) = q := ⟨_, rfl⟩
  have HQ : Hid ((if R = true then n else 0) = q) := hq'
  rw [hq']
  clear hx hR hn hk hq'
  go_enter Try.func12, Try.ntmps12
  go_wp2_with fail
  refine (snr _ _).mono ?_
  rintro e w1 ⟨rfl, m, hw1⟩
  rw [HN.out.1, HN.out.2]
  have B1 : Hid (Below w.heap.size w w1) := (by show Below _ _ _; rw [hw1]; exact below_drewN (Below.refl _ _) _)
  clear hw1
  cases k
  · have E : Hid (R = false) := ET.out
    go_wp2_with fail
    go_ret2
    exact ⟨by rw [← HQ.out, E.out]; rfl, B1.out⟩
  · by_cases l1 : n < lo
    · have E : Hid (R = false) := (by show _ = _; rw [ET.out, HI.out, decide_eq_false (by omega)]; rfl)
      go_wp2_with fail
      go_ret2
      exact ⟨by rw [← HQ.out, E.out]; rfl, B1.out⟩
    · by_cases l2 : hi < n
      · have E : Hid (R = false) := (by show _ = _; rw [ET.out, HI.out, decide_eq_false (by omega : ¬ n ≤ hi)]; simp)
        go_wp2_with fail
        go_ret2
        exact ⟨by rw [← HQ.out, E.out]; rfl, B1.out⟩
      · have E : Hid (R = sameB x d) := (by show _ = _; rw [ET.out, HI.out, decide_eq_true (by omega : lo ≤ n), decide_eq_true (by omega : n ≤ hi)]; simp)
        cases c : sameB x d
        · go_wp2_with (go_at_call 23; refine (same_any _ _ _ HX.out HD.out).mono ?_; rintro e w2 ⟨rfl, hw2⟩; subst hw2; rw [c])
          go_ret2
          exact ⟨by rw [← HQ.out, E.out, c]; rfl, B1.out⟩
        · go_wp2_with (go_at_call 23; refine (same_any _ _ _ HX.out HD.out).mono ?_; rintro e w2 ⟨rfl, hw2⟩; subst hw2; rw [c])
          go_ret2
          exact ⟨by rw [← HQ.out, E.out, c]; rfl, B1.out⟩

set_option maxHeartbeats 1000000 in
theorem spart (x : Nat) (lo hi : Int) (w : World) (hx : x < 18446744073709551616) : Calls Try.prog 14 #[.float .f64 x, .int .i64 lo, .int .i64 hi] w fun e w' => e = .returned (.bool (nan x || tn x lo hi)) ∧ Below w.heap.size w w' := by
  have n1 := self_ne x
  have HX : Hid (x < 18446744073709551616) := hx
  obtain ⟨q, hq'⟩ : ∃ q, (if tn x lo hi = true then (tt x).1 else 0) = q := ⟨_, rfl⟩
  have HQ : Hid ((if tn x lo hi = true then (tt x).1 else 0) = q) := hq'
  clear hx hq'
  cases c : nan x
  · rw [c] at n1
    go_enter Try.func14, Try.ntmps14
    go_wp2_with fail
    refine (stenths _ _ _ _ HX.out).mono ?_
    rintro e w1 ⟨rfl, b1⟩
    rw [HQ.out]
    have B1 : Hid (Below w.heap.size w w1) := b1
    clear b1
    go_wp2_with fail
    go_ret
    exact ⟨rfl, B1.out⟩
  · rw [c] at n1
    go_enter Try.func14, Try.ntmps14
    go_wp2_with fail
    refine (stenths _ _ _ _ HX.out).mono ?_
    rintro e w1 ⟨rfl, b1⟩
    rw [HQ.out]
    have B1 : Hid (Below w.heap.size w w1) := b1
    clear b1
    go_wp2_with fail
    go_ret
    exact ⟨rfl, B1.out⟩

set_option maxHeartbeats 1000000 in
theorem amount_any (s z : Int) (w : World) (h : (s * z).natAbs ≤ 1000000000000000) : Calls Try.prog 35 #[.int .i64 s, .int .i64 z] w fun e w' => e = .returned (.float .f64 (dv (s * z))) ∧ w' = w := by
  have hq : ∀ w, (binOp .quo 24 (.float .f64 (floatOfInt .f64 (s * z))) (.float .f64 4621819117588971520)).run Try.prog w = .ok (.float .f64 (dv (s * z))) w := fun w => run_float_arith w .quo 24 .f64 _ _ _ (dv_run _ h)
  have j1 : IntKind.i64.wrap (s * z) = s * z := IntWalk.i64_in _ (by omega)
  go_enter Try.func35, Try.ntmps35
  go_wp2_with fail
  go_ret
  exact ⟨rfl, rfl⟩

end Go.Proofs.Ytngchoonfheckaa.Flt
