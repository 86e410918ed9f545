/- The law FnExactAscentOk walked. -/
import Derived.Test.YtpcgnahjibfphaaLvE
namespace Go.Proofs.Ytpcgnahjibfphaa.Flt
open Go.ChangeShapes Go.WideShapes Go.ChangeAt Go.RowKit
attribute [local go_sem] run_store_float

theorem sok_any (w : World) (v : Value) (L : Lv) (h : Reads w v L) : Calls Try.prog 9 #[v] w fun e w' => e = .returned (.bool (lok L)) ∧ Below w.heap.size w w' := by
  by_cases h1 : 2 ≤ L.length ∧ L.length ≤ 400
  · exact sok_long w v L h h1.1 h1.2
  · exact sok_short w v L h (by omega)
theorem iok_any (w : World) (v : Value) (L : Lv) (h : Reads w v L) (hm : L.length ≤ 1048576) : Calls Try.prog 11 #[v] w fun e w' => e = .returned (.bool (lok L)) ∧ Below w.heap.size w w' := by
  by_cases h1 : 2 ≤ L.length ∧ L.length ≤ 400
  · exact iok_long w v L h h1.1 h1.2
  · exact iok_short w v L h (by omega) hm

set_option maxHeartbeats 1000000 in
theorem sz_far (a : Option Addr) (n cap : Nat) (w : World) (h : 1048576 < n) (hn : n < 9223372036854775808) : Calls Try.prog 8 #[.slice a n cap, .int .i64 1048576] w fun e w' => e = .returned (.int .i64 (-1)) ∧ w' = w := by
  have i1 : (1048576 : Int) - (n : Int) < 0 := by omega
  have i2 : IntKind.i64.wrap ((1048576 : Int) - (n : Int)) = 1048576 - (n : Int) := IntWalk.i64_in _ (by omega)
  go_enter Try.func8, Try.ntmps8
  go_wp2
  go_ret
  exact ⟨rfl, rfl⟩
set_option maxHeartbeats 1000000 in
theorem sz_near (a : Option Addr) (n cap : Nat) (w : World) (h : n ≤ 1048576) : Calls Try.prog 8 #[.slice a n cap, .int .i64 1048576] w fun e w' => e = .returned (.int .i64 (1048576 - (n : Int))) ∧ w' = w := by
  have i1 : ¬ (1048576 : Int) - (n : Int) < 0 := by omega
  have i2 : IntKind.i64.wrap ((1048576 : Int) - (n : Int)) = 1048576 - (n : Int) := IntWalk.i64_in _ (by omega)
  go_enter Try.func8, Try.ntmps8
  go_wp2
  go_ret
  exact ⟨rfl, rfl⟩

theorem Reads.fits {w : World} {v : Value} {L : Lv} (h : Reads w v L) : L.length < 9223372036854775808 := by
  rcases h with ⟨rfl, _⟩ | ⟨b, o, c, _, h1, h2, _⟩
  · decide
  · unfold maxLen at h2; omega

set_option maxHeartbeats 1000000 in
theorem ascLaw (w : World) (v : Value) (L : Lv) (h : Reads w v L) : Calls Try.prog 3 #[v] w fun e w' => e = .returned (.bool true) ∧ Below w.heap.size w w' := by
  have HF := h.fits
  obtain ⟨a, cap, rfl⟩ := h.form
  have H0 : Hid (Reads w (.slice a L.length cap) L) := h
  clear h
  by_cases hl : 1048576 < L.length
  · go_enter Try.func3, Try.ntmps3
    go_wp2_with fail
    refine (sz_far _ _ _ _ hl HF).mono ?_
    rintro e w1 ⟨rfl, hw1⟩
    subst hw1
    go_wp2_with fail
    go_ret
    exact ⟨rfl, Below.refl _ _⟩
  have hl' : L.length ≤ 1048576 := by omega
  have HL : Hid (L.length ≤ 1048576) := hl'
  have i1 : ¬ (1048576 : Int) - (L.length : Int) < 0 := by omega
  go_enter Try.func3, Try.ntmps3
  go_wp2_with fail
  refine (sz_near _ _ _ _ hl').mono ?_
  rintro e w1 ⟨rfl, hw1⟩
  subst hw1
  go_wp2_with fail
  refine (to_any _ _ L H0.out HL.out).mono ?_
  rintro e w2 ⟨v2, rfl, r2, b2⟩
  obtain ⟨a2, c2, rfl⟩ := r2.form
  have R2 : Hid (Reads w2 (.slice a2 L.length c2) L) := r2
  have B2 : Hid (Below w1.heap.size w1 w2) := b2
  clear r2 b2
  go_wp2_with fail
  refine (sok_any _ _ L R2.out).mono ?_
  rintro e w3 ⟨rfl, b3⟩
  have B3 : Hid (Below w1.heap.size w1 w3) := B2.out.trans (b3.mono B2.out.size)
  clear b3
  go_wp2_with fail
  refine (to_any _ _ L (H0.out.on B3.out) HL.out).mono ?_
  rintro e w4 ⟨v4, rfl, r4, b4⟩
  obtain ⟨a4, c4, rfl⟩ := r4.form
  have R4 : Hid (Reads w4 (.slice a4 L.length c4) L) := r4
  have B4 : Hid (Below w1.heap.size w1 w4) := B3.out.trans (b4.mono B3.out.size)
  clear r4 b4
  go_wp2_with fail
  refine (iok_any _ _ L R4.out HL.out).mono ?_
  rintro e w5 ⟨rfl, b5⟩
  have R5 : Hid (Reads w5 (.slice a4 L.length c4) L) := R4.out.on b5
  have B5 : Hid (Below w1.heap.size w1 w5) := B4.out.trans (b5.mono B4.out.size)
  clear b5
  go_wp2_with fail
  refine (to_any _ _ L (H0.out.on B5.out) HL.out).mono ?_
  rintro e w6 ⟨v6, rfl, r6, b6⟩
  obtain ⟨a6, c6, rfl⟩ := r6.form
  have R6 : Hid (Reads w6 (.slice a6 L.length c6) L) := r6
  have R6' : Hid (Reads w6 (.slice a4 L.length c4) L) := R5.out.on b6
  have B6 : Hid (Below w1.heap.size w1 w6) := B5.out.trans (b6.mono B5.out.size)
  clear r6 b6
  go_wp2_with fail
  refine (eq_same _ _ _ L R6'.out R6.out).mono ?_
  rintro e w7 ⟨rfl, b7⟩
  have B7 : Hid (Below w1.heap.size w1 w7) := B6.out.trans (b7.mono B6.out.size)
  clear b7
  go_wp2_with fail
  go_ret
  exact ⟨rfl, B7.out⟩
end Go.Proofs.Ytpcgnahjibfphaa.Flt
