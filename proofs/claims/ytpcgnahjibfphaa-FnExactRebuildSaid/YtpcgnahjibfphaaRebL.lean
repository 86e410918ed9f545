/- The law FnExactRebuild walked. -/
import Derived.Test.YtpcgnahjibfphaaRb
namespace Go.Proofs.Ytpcgnahjibfphaa.Flt
open Go.ChangeShapes Go.WideShapes Go.ChangeAt Go.RowKit
attribute [local go_sem] run_store_float

theorem sreb_any (w : World) (v : Value) (L : Lv) (p : Int) (h : Reads w v L) : Calls Try.prog 17 #[v, .int .i64 p] w fun e w' => ∃ x, e = .returned (.float .f64 x) ∧ cn x = rebAns L p ∧ Below w.heap.size w w' := by
  unfold rebAns
  cases hk : lok L
  · exact sreb_no w v L p h hk
  · exact sreb_yes w v L p h hk
theorem ireb_any (w : World) (v : Value) (L : Lv) (p : Int) (h : Reads w v L) (hm : L.length ≤ 1048576) : Calls Try.prog 18 #[v, .int .i64 p] w fun e w' => ∃ x, e = .returned (.float .f64 x) ∧ cn x = rebAns L p ∧ Below w.heap.size w w' := by
  unfold rebAns
  cases hk : lok L
  · exact ireb_no w v L p h hk hm
  · exact ireb_yes w v L p h hk

set_option maxHeartbeats 1000000 in
theorem rebLaw (w : World) (v : Value) (L : Lv) (h : Reads w v L) (p : Int) : Calls Try.prog 5 #[v, .int .i64 p] w fun e w' => e = .returned (.bool true) ∧ Below w.heap.size w w' := by
  have HF := h.fits
  obtain ⟨a, cap, rfl⟩ := h.form
  have H0 : Hid (Reads w (.slice a L.length cap) L) := h
  clear h
  by_cases hl : 1048576 < L.length
  · go_enter Try.func5, Try.ntmps5
    go_wp2_with fail
    refine (sz_far _ _ _ _ hl HF).mono ?_
    rintro e w1 ⟨rfl, hw1⟩
    subst hw1
    go_wp2_with fail
    go_ret
    exact ⟨rfl, Below.refl _ _⟩
  have hl' : L.length ≤ 1048576 := by omega
  have HL : Hid (L.length ≤ 1048576) := hl'
  have i1 : ¬ (1048576 : Int) - (L.length : Int) < 0 := by omega
  go_enter Try.func5, Try.ntmps5
  go_wp2_with fail
  refine (sz_near _ _ _ _ hl').mono ?_
  rintro e w1 ⟨rfl, hw1⟩
  subst hw1
  go_wp2_with fail
  refine (to_any _ _ L H0.out HL.out).mono ?_
  rintro e w2 ⟨v2, rfl, r2, b2⟩
  obtain ⟨a2, c2, rfl⟩ := r2.form
  have R2 : Hid (Reads w2 (.slice a2 L.length c2) L) := r2
  have B2 : Hid (Below w1.heap.size w1 w2) := b2
  clear r2 b2
  go_wp2_with fail
  refine (sreb_any _ _ L p R2.out).mono ?_
  rintro e w3 ⟨x, rfl, hx, b3⟩
  have HX : Hid (cn x = rebAns L p) := hx
  clear hx
  have B3 : Hid (Below w1.heap.size w1 w3) := B2.out.trans (b3.mono B2.out.size)
  clear b3
  go_wp2_with fail
  refine (to_any _ _ L (H0.out.on B3.out) HL.out).mono ?_
  rintro e w4 ⟨v4, rfl, r4, b4⟩
  obtain ⟨a4, c4, rfl⟩ := r4.form
  have R4 : Hid (Reads w4 (.slice a4 L.length c4) L) := r4
  have B4 : Hid (Below w1.heap.size w1 w4) := B3.out.trans (b4.mono B3.out.size)
  clear r4 b4
  go_wp2_with fail
  refine (ireb_any _ _ L p R4.out HL.out).mono ?_
  rintro e w5 ⟨y, rfl, hy, b5⟩
  have HY : Hid (cn y = cn x) := hy.trans HX.out.symm
  clear hy
  have R5 : Hid (Reads w5 (.slice a4 L.length c4) L) := R4.out.on b5
  have B5 : Hid (Below w1.heap.size w1 w5) := B4.out.trans (b5.mono B4.out.size)
  clear b5
  go_wp2_with fail
  refine (sf_cn _ _ _ HY.out).mono ?_
  rintro e w9 ⟨rfl, hw9⟩
  subst hw9
  go_wp2_with fail
  refine (to_any _ _ L (H0.out.on B5.out) HL.out).mono ?_
  rintro e w6 ⟨v6, rfl, r6, b6⟩
  obtain ⟨a6, c6, rfl⟩ := r6.form
  have R6 : Hid (Reads w6 (.slice a6 L.length c6) L) := r6
  have R6' : Hid (Reads w6 (.slice a4 L.length c4) L) := R5.out.on b6
  have B6 : Hid (Below w1.heap.size w1 w6) := B5.out.trans (b6.mono B5.out.size)
  clear r6 b6
  go_wp2_with fail
  refine (eq_same _ _ _ L R6'.out R6.out).mono ?_
  rintro e w7 ⟨rfl, b7⟩
  have B7 : Hid (Below w1.heap.size w1 w7) := B6.out.trans (b7.mono B6.out.size)
  clear b7
  go_wp2_with fail
  go_ret
  exact ⟨rfl, B7.out⟩
end Go.Proofs.Ytpcgnahjibfphaa.Flt
