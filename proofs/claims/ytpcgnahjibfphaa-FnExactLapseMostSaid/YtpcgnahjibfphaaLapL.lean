/- The law FnExactLapseMost walked. -/
import Derived.Test.YtpcgnahjibfphaaLpD
namespace Go.Proofs.Ytpcgnahjibfphaa.Flt
open Go.ChangeShapes Go.WideShapes Go.ChangeAt Go.RowKit
attribute [local go_sem] run_store_float

def lapAns (L : Lv) : Int × Nat := if lok L then (((best L (L.length - 2)).1 : Int), (best L (L.length - 2)).2) else (-1, 0)
theorem slap_any (w : World) (v : Value) (L : Lv) (h : Reads w v L) : Calls Try.prog 25 #[v] w fun e w' => e = inf (lapAns L).1 (lapAns L).2 ∧ Below w.heap.size w w' := by
  unfold lapAns
  cases hk : lok L
  · exact slap_no w v L h hk
  · exact slap_yes w v L h hk
theorem ilap_any (w : World) (v : Value) (L : Lv) (h : Reads w v L) (hm : L.length ≤ 1048576) : Calls Try.prog 26 #[v] w fun e w' => e = inf (lapAns L).1 (lapAns L).2 ∧ Below w.heap.size w w' := by
  unfold lapAns
  cases hk : lok L
  · exact ilap_no w v L h hk hm
  · exact ilap_yes w v L h hk

set_option maxHeartbeats 1000000 in
theorem lapLaw (w : World) (v : Value) (L : Lv) (h : Reads w v L) : Calls Try.prog 7 #[v] w fun e w' => e = .returned (.bool true) ∧ Below w.heap.size w w' := by
  have HF := h.fits
  obtain ⟨a, cap, rfl⟩ := h.form
  have H0 : Hid (Reads w (.slice a L.length cap) L) := h
  clear h
  by_cases hl : 1048576 < L.length
  · go_enter Try.func7, Try.ntmps7
    go_wp2_with fail
    refine (sz_far _ _ _ _ hl HF).mono ?_
    rintro e w1 ⟨rfl, hw1⟩
    subst hw1
    go_wp2_with fail
    go_ret
    exact ⟨rfl, Below.refl _ _⟩
  have hl' : L.length ≤ 1048576 := by omega
  have HL : Hid (L.length ≤ 1048576) := hl'
  have i1 : ¬ (1048576 : Int) - (L.length : Int) < 0 := by omega
  have IL : Hid (∀ w v, Reads w v L → Calls Try.prog 26 #[v] w fun e w' => e = inf (lapAns L).1 (lapAns L).2 ∧ Below w.heap.size w w') := fun w v h => ilap_any w v L h hl'
  go_enter Try.func7, Try.ntmps7
  go_wp2_with fail
  refine (sz_near _ _ _ _ hl').mono ?_
  rintro e w1 ⟨rfl, hw1⟩
  subst hw1
  go_wp2_with fail
  refine (to_any _ _ L H0.out HL.out).mono ?_
  rintro e w2 ⟨v2, rfl, r2, b2⟩
  obtain ⟨a2, c2, rfl⟩ := r2.form
  have R2 : Hid (Reads w2 (.slice a2 L.length c2) L) := r2
  have B2 : Hid (Below w1.heap.size w1 w2) := b2
  clear r2 b2
  go_wp2_with fail
  refine (slap_any _ _ L R2.out).mono ?_
  rintro e w3 ⟨rfl, b3⟩
  generalize (lapAns L).1 = an at *
  generalize (lapAns L).2 = ax at *
  have B3 : Hid (Below w1.heap.size w1 w3) := B2.out.trans (b3.mono B2.out.size)
  clear b3
  go_wp2_with fail
  refine (to_any _ _ L (H0.out.on B3.out) HL.out).mono ?_
  rintro e w4 ⟨v4, rfl, r4, b4⟩
  obtain ⟨a4, c4, rfl⟩ := r4.form
  have R4 : Hid (Reads w4 (.slice a4 L.length c4) L) := r4
  have B4 : Hid (Below w1.heap.size w1 w4) := B3.out.trans (b4.mono B3.out.size)
  clear r4 b4
  go_wp2_with fail
  refine (IL.out _ _ R4.out).mono ?_
  rintro e w5 ⟨rfl, b5⟩
  have R5 : Hid (Reads w5 (.slice a4 L.length c4) L) := R4.out.on b5
  have B5 : Hid (Below w1.heap.size w1 w5) := B4.out.trans (b5.mono B4.out.size)
  clear b5
  go_wp2_with fail
  refine (sf_same _ _).mono ?_
  rintro e w9 ⟨rfl, hw9⟩
  subst hw9
  go_wp2_with fail
  refine (to_any _ _ L (H0.out.on B5.out) HL.out).mono ?_
  rintro e w6 ⟨v6, rfl, r6, b6⟩
  obtain ⟨a6, c6, rfl⟩ := r6.form
  have R6 : Hid (Reads w6 (.slice a6 L.length c6) L) := r6
  have R6' : Hid (Reads w6 (.slice a4 L.length c4) L) := R5.out.on b6
  have B6 : Hid (Below w1.heap.size w1 w6) := B5.out.trans (b6.mono B5.out.size)
  clear r6 b6
  go_wp2_with fail
  refine (eq_same _ _ _ L R6'.out R6.out).mono ?_
  rintro e w7 ⟨rfl, b7⟩
  have B7 : Hid (Below w1.heap.size w1 w7) := B6.out.trans (b7.mono B6.out.size)
  clear b7
  go_wp2_with fail
  go_ret
  exact ⟨rfl, B7.out⟩
end Go.Proofs.Ytpcgnahjibfphaa.Flt
