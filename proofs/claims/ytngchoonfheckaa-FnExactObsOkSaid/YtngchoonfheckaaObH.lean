/- The program and its model ask the same of a report; the law FnExactObsOk walked. -/
import Derived.Test.YtngchoonfheckaaObG
namespace Go.Proofs.Ytngchoonfheckaa.Flt
open Go.ChangeShapes Go.WideShapes Go.ChangeAt Go.RowKit
attribute [local go_sem] run_store_float

theorem vis_eq (v : Nat) : svis v = (nan v || sw v 100 0 9999) := by
  unfold svis
  cases nan v
  · rw [Bool.false_or, Bool.false_or]
    have h1 := sw_is v 10 9999 (by omega) (by omega)
    have h1 : sw v 100 0 9999 = true ↔ ∃ s : Nat, s ≤ 9999 ∧ v = fi ((s * 10 : Nat) : Int) := h1
    have h2 := iz_is v 99990 (by omega)
    have h2 : iz v 0 99990 = true ↔ ∃ n : Nat, n ≤ 99990 ∧ v = fi (n : Int) := h2
    rw [Bool.eq_iff_iff, h1, Bool.and_eq_true]
    constructor
    · rintro ⟨a, b⟩
      rw [a] at b
      obtain ⟨n, hn, rfl⟩ := h2.1 a
      rw [nr_fi n (by omega)] at b
      simp at b
      have b' : (n : Int) % 10 = 0 := by rw [← Int.tmod_eq_emod_of_nonneg (by omega)]; exact b
      exact ⟨n / 10, by omega, by rw [show n / 10 * 10 = n by omega]⟩
    · rintro ⟨s, hs, rfl⟩
      have a : iz (fi ((s * 10 : Nat) : Int)) 0 99990 = true := h2.2 ⟨s * 10, by omega, rfl⟩
      refine ⟨a, ?_⟩
      rw [a, nr_fi (s * 10) (by omega)]
      simp only [if_true, beq_iff_eq]
      rw [Int.tmod_eq_emod_of_nonneg (by omega)]
      omega
  · rfl
theorem tab : ((List.range 100).all fun s => (FloatKind.f64.format.order (floatOfInt .f64 (s : Int)) 0 == some .gt || FloatKind.f64.format.order (floatOfInt .f64 (s : Int)) 0 == some .eq) && ((FloatKind.f64.format.order (floatOfInt .f64 (s : Int)) 0 == some .eq) == (s == 0)) && kn (floatOfInt .f64 (s : Int))) = true := by decide +kernel
theorem wok_fi (di : Int) (n : Nat) (h : n ≤ 99) : wok di (fi (n : Int)) = (inB di 0 36 && (((n : Int) == 0) == (di == 0))) := by
  have := List.all_eq_true.1 tab n (List.mem_range.2 (by omega))
  have e : fi (n : Int) = floatOfInt .f64 (n : Int) := rfl
  rw [← e] at this
  simp only [Bool.and_eq_true] at this
  obtain ⟨⟨h1, h2⟩, h3⟩ := this
  have h2 : (FloatKind.f64.format.order (fi (n : Int)) 0 == some .eq) = (n == 0) := by simpa using h2
  unfold wok
  rw [h1, h3, h2]
  have e1 : ((n : Int) == 0) = (n == 0) := by
    by_cases z : n = 0
    · subst z; rfl
    · have a : ((n : Int) == 0) = false := by simp; omega
      have b : (n == 0) = false := by simp; omega
      rw [a, b]
  have e2 : decide (di = 0) = (di == 0) := by by_cases h : di = 0 <;> simp [h]
  rw [e1, e2, Bool.and_true, Bool.and_true]
theorem wind_eq (di : Int) (sp : Nat) : swd di sp = (((di == -1) && nan sp) || (sw sp 10 0 99 && wok di sp)) := by
  unfold swd
  cases c : (di == -1)
  · have h1 := sw_is sp 1 99 (by omega) (by omega)
    have h1 : sw sp 10 0 99 = true ↔ ∃ s : Nat, s ≤ 99 ∧ sp = fi ((s * 1 : Nat) : Int) := h1
    have h2 := iz_is sp 99 (by omega)
    have h2 : iz sp 0 99 = true ↔ ∃ n : Nat, n ≤ 99 ∧ sp = fi (n : Int) := h2
    simp only [Bool.false_and, Bool.false_or]
    cases k : iz sp 0 99
    · have k2 : sw sp 10 0 99 = false := by
        cases q : sw sp 10 0 99
        · rfl
        · obtain ⟨s, a, b⟩ := h1.1 q
          rw [Nat.mul_one] at b
          have := h2.2 ⟨s, a, b⟩
          rw [k] at this
          exact this.symm
      rw [k2]; rfl
    · obtain ⟨n, a, rfl⟩ := h2.1 k
      have k2 : sw (fi (n : Int)) 10 0 99 = true := h1.2 ⟨n, a, by rw [Nat.mul_one]⟩
      rw [k2, wok_fi di n a, nr_fi n (by omega)]
      rfl
  · have e : di = -1 := by simpa using c
    subst e
    have w0 : wok (-1) sp = false := by unfold wok inB; rfl
    rw [w0]
    simp
theorem obs_eq (s : Int) (t d p : Nat) (di : Int) (sp v r : Nat) (we cl : Int) : (svis v && sall s t d p di sp v r we cl (skyB we cl)) = iall s t d p di sp v r we cl := by
  unfold sall iall skyB
  rw [vis_eq, wind_eq, sw_one, sw_one, sw_one, sw_one]
  generalize inB s 1 99999 = x1
  generalize (nan v || sw v 100 0 9999) = x2
  generalize (nan t || tn t (-999) 999) = x3
  generalize (nan d || tn d (-999) 999) = x4
  generalize (nan p || tn p (5000) 14999) = x5
  generalize (nan r || tn r (0) 9999) = x6
  cases x1 <;> cases x2 <;> cases x3 <;> cases x4 <;> cases x5 <;> cases x6 <;> simp

set_option maxHeartbeats 2000000 in
theorem obsLaw (s : Int) (t d p : Nat) (di : Int) (sp v r : Nat) (we cl : Int) (w : World) (b1 : t < 18446744073709551616) (b2 : d < 18446744073709551616) (b3 : p < 18446744073709551616) (b5 : sp < 18446744073709551616) (b6 : v < 18446744073709551616) (b7 : r < 18446744073709551616) : Calls Try.prog 4 #[ob s t d p di sp v r we cl] w fun e w' => e = .returned (.bool true) ∧ Below w.heap.size w w' := by
  have BD : Hid (t < 18446744073709551616 ∧ d < 18446744073709551616 ∧ p < 18446744073709551616 ∧ sp < 18446744073709551616 ∧ v < 18446744073709551616 ∧ r < 18446744073709551616) := ⟨b1, b2, b3, b5, b6, b7⟩
  have S : Hid (∀ w, Calls Try.prog 7 #[ob s t d p di sp v r we cl] w fun e w' => e = .returned (.bool (iall s t d p di sp v r we cl)) ∧ Below w.heap.size w w') := fun w => by rw [← obs_eq]; exact sobs s t d p di sp v r we cl w b1 b2 b3 b5 b6 b7
  have I : Hid (∀ w, Calls Try.prog 9 #[ob s t d p di sp v r we cl] w fun e w' => e = .returned (.bool (iall s t d p di sp v r we cl)) ∧ Below w.heap.size w w') := fun w => iobs s t d p di sp v r we cl w b1 b2 b3 b5 b6 b7
  clear b1 b2 b3 b5 b6 b7
  generalize iall s t d p di sp v r we cl = R at *
  have hne : (R != R) = false := by simp
  have OB0 : Hid (Ob (w.alloc (.cells #[.int .i64 s, .float .f64 t, .float .f64 d, .float .f64 p, .int .i64 di, .float .f64 sp, .float .f64 v, .float .f64 r, .int .i64 we, .int .i64 cl] 26)) w.heap.size s t d p di sp v r we cl) := Ob.new w s t d p di sp v r we cl 26
  go_enter Try.func4, Try.ntmps4
  go_wp2_with fail
  refine (toObs_any _ _ _ _ _ _ _ _ _ _ _).mono ?_
  rintro e w1 ⟨rfl, bb⟩
  have OB1 : Hid (Ob w1 w.heap.size s t d p di sp v r we cl) := OB0.out.on bb
  have B1 : Hid (Below w.heap.size w w1) := ((Below.refl _ _).alloc (Nat.le_refl _) _).trans (bb.mono (by simp))
  clear bb
  go_wp2_with fail
  refine (S.out _).mono ?_
  rintro e w2 ⟨rfl, bb⟩
  have OB2 : Hid (Ob w2 w.heap.size s t d p di sp v r we cl) := OB1.out.on bb
  have B2 : Hid (Below w.heap.size w w2) := B1.out.trans (bb.mono B1.out.size)
  clear bb
  obtain ⟨hh, c0, c1, c2, c3, c4, c5, c6, c7, c8, c9⟩ := OB2.out
  go_wp2_with fail
  refine (toObs_any _ _ _ _ _ _ _ _ _ _ _).mono ?_
  rintro e w3 ⟨rfl, bb⟩
  have B3 : Hid (Below w.heap.size w w3) := B2.out.trans (bb.mono B2.out.size)
  clear bb hh c0 c1 c2 c3 c4 c5 c6 c7 c8 c9
  go_wp2_with fail
  refine (I.out _).mono ?_
  rintro e w4 ⟨rfl, bb⟩
  have B4 : Hid (Below w.heap.size w w4) := B3.out.trans (bb.mono B3.out.size)
  clear bb
  go_wp2_with fail
  go_ret
  exact ⟨rfl, B4.out⟩
end Go.Proofs.Ytngchoonfheckaa.Flt
