/- Energy: the law, with both answers in it. -/
import Derived.Test.YtloegigoicnjpaaEn
import Derived.Test.YtloegigoicnjpaaPrArg
namespace Go.Proofs.Ytloegigoicnjpaa.En
open Go.ChangeShapes Go.WideShapes Go.ChangeAt Go.RowKit
open Go.Proofs.Ytloegigoicnjpaa.Flt Go.Proofs.Ytloegigoicnjpaa.Pr
attribute [local go_sem] Pr.run_store_float

set_option maxHeartbeats 1000000 in
theorem energyAll (w : World) (v : Value) (L : Ls) (h : Reads w v L) (_hf : Pr.Fit L) : Calls Try.prog 4 #[v] w fun e w' => e = .returned (.bool true) ∧ Below w.heap.size w w' := by
  have HF := h.fits
  obtain ⟨a, cap, rfl⟩ := h.form
  have H0 : Hid (Reads w (.slice a L.length cap) L) := h
  clear h _hf
  by_cases hl : 1048576 < L.length
  · go_enter Try.func4, Try.ntmps4
    go_wp2_with fail
    refine (Pr.sz_far _ _ _ _ _ (by omega) (by omega) (by omega) HF).mono ?_
    rintro e w1 ⟨rfl, hw1⟩
    subst hw1
    go_wp2_with fail
    go_ret
    exact ⟨rfl, Below.refl _ _⟩
  have hl' : L.length ≤ 1048576 := by omega
  have HL : Hid (L.length ≤ 1048576) := hl'
  have i1 : ¬ (1048576 : Int) - (L.length : Int) < 0 := by omega
  have SI : Hid (∀ w v, Reads w v L → Calls Try.prog 14 #[v] w fun e w' => ∃ x, e = .returned (.float .f64 x) ∧ cn x = energy L ∧ Below w.heap.size w w') := fun w v h => sen_any L w v h
  have II : Hid (∀ w v, Reads w v L → Calls Try.prog 15 #[v] w fun e w' => ∃ x, e = .returned (.float .f64 x) ∧ cn x = energy L ∧ Below w.heap.size w w') := fun w v h => ien_any L w v h
  generalize energy L = E at *
  go_enter Try.func4, Try.ntmps4
  go_wp2_with fail
  refine (Pr.sz_near _ _ _ _ _ (by omega) (by omega)).mono ?_
  rintro e w1 ⟨rfl, hw1⟩
  subst hw1
  go_wp2_with fail
  refine (Pr.to_own _ _ L H0.out HL.out).mono ?_
  rintro e w2 ⟨v2, rfl, r2, b2⟩
  obtain ⟨a2, c2, rfl⟩ := r2.form
  have R2 : Hid (Reads w2 (.slice a2 L.length c2) L) := r2.reads
  have B2 : Hid (Below w1.heap.size w1 w2) := b2
  clear r2 b2
  go_wp2_with fail
  refine (SI.out _ _ R2.out).mono ?_
  rintro e w3 ⟨x3, rfl, e3, b3⟩
  have E3 : Hid (cn x3 = E) := e3
  have B3 : Hid (Below w1.heap.size w1 w3) := B2.out.trans (b3.mono B2.out.size)
  clear e3 b3
  go_wp2_with fail
  refine (Pr.to_own _ _ L (H0.out.on B3.out) HL.out).mono ?_
  rintro e w4 ⟨v4, rfl, r4, b4⟩
  obtain ⟨a4, c4, rfl⟩ := r4.form
  have R4 : Hid (Reads w4 (.slice a4 L.length c4) L) := r4.reads
  have B4 : Hid (Below w1.heap.size w1 w4) := B3.out.trans (b4.mono B3.out.size)
  clear r4 b4
  go_wp2_with fail
  refine (II.out _ _ R4.out).mono ?_
  rintro e w5 ⟨x5, rfl, e5, b5⟩
  have E5 : Hid (cn x5 = cn x3) := e5.trans E3.out.symm
  have R5 : Hid (Reads w5 (.slice a4 L.length c4) L) := R4.out.on b5
  have B5 : Hid (Below w1.heap.size w1 w5) := B4.out.trans (b5.mono B4.out.size)
  clear e5 b5
  go_wp2_with fail
  refine (Flt.sf_cn x5 x3 _ E5.out).mono ?_
  rintro e w6 ⟨rfl, hw6⟩
  have hw6' := hw6.symm
  subst hw6'
  go_wp2_with fail
  refine (Pr.to_own _ _ L (H0.out.on B5.out) HL.out).mono ?_
  rintro e w7 ⟨v7, rfl, r7, b7⟩
  obtain ⟨a7, c7, rfl⟩ := r7.form
  have T7 : Hid (Reads w7 (.slice a7 L.length c7) L) := r7.reads
  have R7 : Hid (Reads w7 (.slice a4 L.length c4) L) := R5.out.on b7
  have B7 : Hid (Below w1.heap.size w1 w7) := B5.out.trans (b7.mono B5.out.size)
  clear r7 b7
  go_wp2_with fail
  refine (Pr.eq_same _ _ _ L R7.out T7.out).mono ?_
  rintro e w8 ⟨rfl, b8⟩
  have B8 : Hid (Below w1.heap.size w1 w8) := B7.out.trans (b8.mono B7.out.size)
  clear b8
  go_wp2_with fail
  go_ret
  exact ⟨rfl, B8.out⟩
end Go.Proofs.Ytloegigoicnjpaa.En
